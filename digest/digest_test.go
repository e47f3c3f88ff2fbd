package digest

import (
	"errors"
	"slices"
	"testing"

	"weave/sum"
)

func TestEncode(t *testing.T) {
	for _, clock := range [][]int{{0, 0}, {1, 30, 7}, {30, 30, 30, 30}} {
		s := Encode(clock)
		var want []byte
		for _, n := range clock {
			want = append(want, byte(n))
		}
		if s != sum.Seal(string(want)) {
			t.Errorf("P13: Encode(%v) = %x", clock, s)
		}
		if got, err := Decode(s, len(clock)); !slices.Equal(got, clock) || err != nil {
			t.Errorf("P13: Decode(%x) = %v, %v, want %v", s, got, err, clock)
		}
	}
}

func TestDecodeTellsTheReason(t *testing.T) {
	right := Encode([]int{3, 0, 4})
	for _, c := range []struct {
		name, bytes string
		reason      error
	}{
		{"nothing", "", ErrLength},
		{"the sum alone", sum.Seal(""), ErrLength},
		{"one number less", Encode([]int{3, 0}), ErrLength},
		{"one number more", Encode([]int{3, 0, 4, 0}), ErrLength},
		{"a byte less", right[:6], ErrLength},
		{"a byte more", right + "\x00", ErrLength},
		{"another sum", right[:6] + "!", ErrSum},
		{"no sum", "\x00\x00\x00\x00\x00\x00\x00", ErrSum},
		{"another number", "\x04" + right[1:], ErrSum},
	} {
		if clock, err := Decode(c.bytes, 3); clock != nil || !errors.Is(err, c.reason) {
			t.Errorf("P13, %s: Decode = %v, %v, want %v", c.name, clock, err, c.reason)
		}
	}
}
