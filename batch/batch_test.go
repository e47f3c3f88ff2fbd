package batch

import (
	"errors"
	"testing"

	"weave/api"
)

func right() api.Batch {
	return api.Batch{Origin: 1, Seq: 2, Time: 5, Clock: []int{3, 1}, Effects: []api.Effect{
		{Op: api.Put, Object: 3, Value: 1},
		{Op: api.Remove, Object: 1, Dots: []api.Dot{{Origin: 0, Seq: 3, Index: 4}, {Origin: 1, Seq: 2, Index: 0}}},
	}}
}

func TestCheckTellsThePart(t *testing.T) {
	if err := Check(right()); err != nil {
		t.Errorf("P3: a batch is refused: %v", err)
	}
	for _, c := range []struct {
		change func(b *api.Batch)
		text   string
	}{
		{func(b *api.Batch) { b.Clock = nil }, "length of the Clock: no batch"},
		{func(b *api.Batch) { b.Origin = 2 }, "Origin: no batch"},
		{func(b *api.Batch) { b.Seq = 31 }, "Seq: no batch"},
		{func(b *api.Batch) { b.Time = 0 }, "Time: no batch"},
		{func(b *api.Batch) { b.Effects = nil }, "number of effects: no batch"},
		{func(b *api.Batch) { b.Clock[1] = 2 }, "Clock of 1: no batch"},
		{func(b *api.Batch) { b.Effects[0].Op = 7 }, "effect 0: Op: no batch"},
		{func(b *api.Batch) { b.Effects[0].Object = 8 }, "effect 0: Object: no batch"},
		{func(b *api.Batch) { b.Effects[1].Value = 1 }, "effect 1: Value: no batch"},
		{func(b *api.Batch) { b.Effects[0].Ref.Index = 1 }, "effect 0: Ref: no batch"},
		{func(b *api.Batch) { b.Effects[1].Dots = nil }, "effect 1: number of Dots: no batch"},
		{func(b *api.Batch) { b.Effects[1].Dots[1].Index = 1 }, "effect 1: dot 1: no batch"},
	} {
		b := right()
		c.change(&b)
		if err := Check(b); !errors.Is(err, ErrBatch) || err.Error() != c.text {
			t.Errorf("P3: Check = %v, want %s", err, c.text)
		}
	}
}

func TestRuleOf(t *testing.T) {
	for op := -1; op <= 8; op++ {
		_, err := RuleOf(op)
		if known := op >= api.Add && op <= api.Erase; known != (err == nil) || !known && !errors.Is(err, ErrBatch) {
			t.Errorf("RuleOf(%d): %v", op, err)
		}
	}
}
