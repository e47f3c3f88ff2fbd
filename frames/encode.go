// Package frames turns batches into bytes and back.
package frames

import (
	"weave/api"
	"weave/batch"
	"weave/sum"
)

// lengthSize is how many bytes the frame's length takes.
const lengthSize = 2

// Encode is the frame of b; a fault over batch.ErrBatch, if b is no batch.
func Encode(b api.Batch) (string, error) {
	if err := batch.Check(b); err != nil {
		return "", err
	}
	content := appendHead(nil, b)
	for _, e := range b.Effects {
		content = appendEffect(content, e)
	}
	length := appendTwo(nil, lengthSize+len(content)+sum.Size)
	return sum.Seal(string(length) + string(content)), nil
}

func appendHead(to []byte, b api.Batch) []byte {
	to = append(to, byte(b.Origin), byte(b.Seq), byte(b.Time), byte(len(b.Clock)))
	for _, n := range b.Clock {
		to = append(to, byte(n))
	}
	return append(to, byte(len(b.Effects)))
}

func appendEffect(to []byte, e api.Effect) []byte {
	to = append(to, byte(e.Op), byte(e.Object))
	to = appendTwo(to, e.Value)
	// Only what has passed Check is written, so there is a rule.
	rule, _ := batch.RuleOf(e.Op)
	if rule.HasRef() {
		to = appendDot(to, e.Ref)
	}
	if rule.HasDots() {
		to = append(to, byte(len(e.Dots)))
		for _, d := range e.Dots {
			to = appendDot(to, d)
		}
	}
	return to
}

func appendDot(to []byte, d api.Dot) []byte {
	return append(to, byte(d.Origin), byte(d.Seq), byte(d.Index))
}

// appendTwo cuts n to 16 bits, which makes a number below 0 the one that is 65536 more.
func appendTwo(to []byte, n int) []byte {
	return append(to, byte(n>>8), byte(n))
}
