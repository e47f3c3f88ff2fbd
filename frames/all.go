package frames

import (
	"iter"

	"weave/api"
)

// All goes through the batches whose frames s begins with, one behind the other, each with its frame.
func All(s string) iter.Seq2[api.Batch, string] {
	return func(yield func(api.Batch, string) bool) {
		rest := s // s stays whole for who goes through it again
		for {
			frame := first(rest)
			b, err := Decode(frame)
			if err != nil || !yield(b, frame) {
				return
			}
			rest = rest[len(frame):]
		}
	}
}

// first is as much of s as its length tells, whether that is a frame or not.
func first(s string) string {
	r := &reader{bytes: s}
	return s[:min(r.two(), len(s))]
}
