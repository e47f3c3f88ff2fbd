// Package batch says what is a batch and what is none.
package batch

import (
	"cmp"
	"strconv"

	"weave/api"
)

// Check is nil if b is a batch, else a fault over ErrBatch.
func Check(b api.Batch) error {
	if err := checkHead(b); err != nil {
		return err
	}
	for i, e := range b.Effects {
		if err := checkEffect(b, i, e); err != nil {
			return Fault{"effect " + strconv.Itoa(i), err}
		}
	}
	return nil
}

// checkHead goes ahead of the effects: what these may name hangs on a Clock that is right.
func checkHead(b api.Batch) error {
	switch {
	case !within(len(b.Clock), api.MinReplicas, api.MaxReplicas):
		return Fault{"length of the Clock", ErrBatch}
	case !within(b.Origin, 0, len(b.Clock)-1):
		return Fault{"Origin", ErrBatch}
	case !within(b.Seq, 1, api.MaxSeq):
		return Fault{"Seq", ErrBatch}
	case !within(b.Time, 1, api.MaxTime):
		return Fault{"Time", ErrBatch}
	case !within(len(b.Effects), 1, api.MaxEffects):
		return Fault{"number of effects", ErrBatch}
	}
	return checkClock(b)
}

func checkClock(b api.Batch) error {
	for r, n := range b.Clock {
		if !within(n, 0, api.MaxSeq) || r == b.Origin && n != b.Seq-1 {
			return Fault{"Clock of " + strconv.Itoa(r), ErrBatch}
		}
	}
	return nil
}

func checkEffect(b api.Batch, i int, e api.Effect) error {
	rule, err := RuleOf(e.Op)
	switch {
	case err != nil:
		return err
	case !within(e.Object, 0, api.Objects-1) || KindOf(e.Object) != rule.Kind:
		return Fault{"Object", ErrBatch}
	case !within(e.Value, rule.Least, rule.Greatest):
		return Fault{"Value", ErrBatch}
	case !refFits(b, i, e.Ref, rule.Ref):
		return Fault{"Ref", ErrBatch}
	case !within(len(e.Dots), rule.LeastDots, rule.MostDots):
		return Fault{"number of Dots", ErrBatch}
	}
	return checkDots(b, i, e.Dots)
}

func refFits(b api.Batch, i int, ref api.Dot, use RefUse) bool {
	if ref == (api.Dot{}) {
		return use != MustRef
	}
	return use != NoRef && covers(b, i, ref)
}

func checkDots(b api.Batch, i int, dots []api.Dot) error {
	for k, d := range dots {
		rises := k == 0 || CompareDots(dots[k-1], d) < 0
		if !rises || !covers(b, i, d) {
			return Fault{"dot " + strconv.Itoa(k), ErrBatch}
		}
	}
	return nil
}

// covers takes the Clock for right: then no dot of this batch is among those ahead of it.
func covers(b api.Batch, i int, d api.Dot) bool {
	if !within(d.Origin, 0, len(b.Clock)-1) || !within(d.Index, 0, api.MaxEffects-1) {
		return false
	}
	if d.Origin == b.Origin && d.Seq == b.Seq {
		return d.Index < i
	}
	return within(d.Seq, 1, b.Clock[d.Origin])
}

// CompareDots tells which of two dots is ahead: below 0, if it is a.
func CompareDots(a, b api.Dot) int {
	return cmp.Or(cmp.Compare(a.Origin, b.Origin), cmp.Compare(a.Seq, b.Seq), cmp.Compare(a.Index, b.Index))
}
