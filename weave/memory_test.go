package weave_test

import (
	"math"
	"slices"
	"testing"
	"unsafe"

	"weave/api"
	"weave/weave"
)

// roomy is a copy of the list with spare room that is filled.
func roomy[T any](list []T, spare T) []T {
	n := len(list)
	long := append(slices.Clone(list), spare, spare, spare)
	return long[:n]
}

func roomyBatch(b api.Batch) api.Batch {
	b.Clock = roomy(b.Clock, 77)
	b.Effects = roomy(b.Effects, api.Effect{Op: 77})
	for i := range b.Effects {
		b.Effects[i].Dots = roomy(b.Effects[i].Dots, dot(77, 77, 77))
	}
	return b
}

// unrolled is a batch with the spare room of its lists among them.
func unrolled(b api.Batch) api.Batch {
	b.Clock = b.Clock[:cap(b.Clock)]
	b.Effects = slices.Clone(b.Effects[:cap(b.Effects)])
	for i, e := range b.Effects {
		b.Effects[i].Dots = e.Dots[:cap(e.Dots)]
	}
	return b
}

func TestEncodeChangesNothing(t *testing.T) {
	for _, b := range samples() {
		for _, time := range []int{b.Time, 0} {
			b.Time = time
			given := roomyBatch(b)
			before := plain(unrolled(given))
			first, _ := weave.Encode(given)
			if !same(unrolled(given), before) {
				t.Errorf("P2: Encode made %v of %v", unrolled(given), before)
			}
			if second, _ := weave.Encode(given); second != first {
				t.Errorf("P2: Encode answered %x, then %x", first, second)
			}
		}
	}
}

func TestEncodeKeepsNothing(t *testing.T) {
	b := plain(samples()[1])
	first, _ := weave.Encode(b)
	want, _ := frameOf(b)
	b.Clock[0], b.Effects[0].Value, b.Effects[1].Dots[0] = 9, 4, dot(0, 1, 0)
	if first != want {
		t.Errorf("P2: the answer changed with what was handed in: %x, want %x", first, want)
	}
	accept(t, "changed behind a first call", b)
}

// span is where a list lies in memory, its spare room too.
type span struct{ from, to uintptr }

func spanOf[T any](list []T) span {
	from := uintptr(unsafe.Pointer(unsafe.SliceData(list)))
	return span{from, from + uintptr(cap(list))*unsafe.Sizeof(*new(T))}
}

func spans(b api.Batch) []span {
	list := []span{spanOf(b.Clock), spanOf(b.Effects)}
	for _, e := range b.Effects[:cap(b.Effects)] {
		if cap(e.Dots) > 0 {
			list = append(list, spanOf(e.Dots))
		}
	}
	return list
}

func TestDecodeGivesNewMemory(t *testing.T) {
	for _, b := range samples() {
		s, _ := weave.Encode(b)
		first, _ := weave.Decode(s)
		second, e := weave.Decode(s)
		if e != api.OK {
			t.Fatalf("P4: Decode: %d", e)
		}
		all := append(spans(first), spans(second)...)
		for i, x := range all {
			for _, y := range all[:i] {
				if x.from < y.to && y.from < x.to {
					t.Errorf("P2: two lists share memory: %x, %x", x, y)
				}
			}
		}
		wipe(first)
		if third, _ := weave.Decode(s); !same(second, b) || !same(third, b) {
			t.Errorf("P2: an answer changed with another one: %v, %v, want %v", second, third, b)
		}
	}
}

func wipe(b api.Batch) {
	for _, e := range b.Effects {
		clear(e.Dots[:cap(e.Dots)])
	}
	clear(b.Clock[:cap(b.Clock)])
	clear(b.Effects[:cap(b.Effects)])
}

// numbers are the places of all numbers of a batch.
func numbers(b *api.Batch) []*int {
	list := []*int{&b.Origin, &b.Seq, &b.Time}
	for i := range b.Clock {
		list = append(list, &b.Clock[i])
	}
	for i := range b.Effects {
		e := &b.Effects[i]
		list = append(list, &e.Op, &e.Object, &e.Value, &e.Ref.Origin, &e.Ref.Seq, &e.Ref.Index)
		for k := range e.Dots {
			d := &e.Dots[k]
			list = append(list, &d.Origin, &d.Seq, &d.Index)
		}
	}
	return list
}

// No number is cut to a byte or wraps round, wherever it stands.
func TestFarNumbers(t *testing.T) {
	for _, b := range samples() {
		for i := range numbers(&b) {
			for _, by := range []int{1 << 16, -1 << 16, 1 << 32, -1 << 32, 1<<16 - 1<<8, math.MinInt, math.MaxInt} {
				x := plain(b)
				*numbers(&x)[i] += by
				refuse(t, name("a number changed by", by), x)
			}
		}
	}
}
