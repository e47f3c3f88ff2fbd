package objects

import (
	"slices"
	"testing"

	"weave/api"
	"weave/batch"
)

// happening is an effect with its stamp.
type happening struct {
	at Stamp
	api.Effect
}

func stamp(time, origin, seq, index int) Stamp {
	return Stamp{api.Dot{Origin: origin, Seq: seq, Index: index}, time}
}

func put(at Stamp, value int, parent api.Dot) happening {
	return happening{at, api.Effect{Op: api.Put, Value: value, Ref: parent}}
}

func comesTo(kind batch.Kind, list []happening) []int {
	o := New(kind)
	for _, h := range list {
		o.Take(h.at, h.Effect)
	}
	return o.Values()
}

// inEveryOrder: the list comes to the same, in whatever order its effects happen that has each behind those that it names.
func inEveryOrder(t *testing.T, kind batch.Kind, want []int, done, left []happening) {
	t.Helper()
	if len(left) == 0 {
		if got := comesTo(kind, done); !slices.Equal(got, want) {
			t.Errorf("the effects %v come to %v, want %v", done, got, want)
		}
		return
	}
	for i, h := range left {
		if !namesOneOf(h, left) {
			rest := slices.Delete(slices.Clone(left), i, i+1)
			inEveryOrder(t, kind, want, append(slices.Clone(done), h), rest)
		}
	}
}

func namesOneOf(h happening, list []happening) bool {
	return slices.ContainsFunc(list, func(x happening) bool {
		return x.at.Dot == h.Ref || slices.Contains(h.Dots, x.at.Dot)
	})
}

func TestTree(t *testing.T) {
	a, b := stamp(1, 0, 1, 0), stamp(1, 1, 1, 0)
	d := stamp(2, 1, 2, 0)
	puts := []happening{
		put(a, 1, api.Dot{}),
		put(b, 2, api.Dot{}),
		put(stamp(2, 0, 2, 0), 3, a.Dot),
		put(d, 4, a.Dot),
		put(stamp(2, 1, 2, 1), 5, d.Dot),
		put(stamp(2, 1, 2, 2), 6, a.Dot),
		put(stamp(3, 0, 3, 0), 7, a.Dot),
	}
	inEveryOrder(t, batch.List, []int{2, 1, 7, 6, 4, 5, 3}, nil, puts)
	erased := append(slices.Delete(slices.Clone(puts), 1, 2), happening{stamp(4, 2, 1, 0), api.Effect{Op: api.Erase, Ref: d.Dot}})
	inEveryOrder(t, batch.List, []int{1, 7, 6, 5, 3}, nil, erased)
}

// Siblings go by the Time first, then by the Origin, then by the Index.
func TestSiblings(t *testing.T) {
	inEveryOrder(t, batch.List, []int{6, 5, 4, 3, 2, 1}, nil, []happening{
		put(stamp(1, 3, 1, 4), 1, api.Dot{}),
		put(stamp(2, 0, 9, 4), 2, api.Dot{}),
		put(stamp(2, 1, 1, 0), 3, api.Dot{}),
		put(stamp(2, 1, 1, 3), 4, api.Dot{}),
		put(stamp(2, 2, 2, 0), 5, api.Dot{}),
		put(stamp(9, 0, 10, 0), 6, api.Dot{}),
	})
}

// Two may erase the same, and put behind what another erases.
func TestErasedKeepTheirPlace(t *testing.T) {
	a, b := stamp(1, 0, 1, 0), stamp(1, 0, 1, 1)
	inEveryOrder(t, batch.List, []int{3, 2, 4}, nil, []happening{
		put(a, 1, api.Dot{}),
		put(b, 2, a.Dot),
		put(stamp(2, 1, 1, 0), 3, a.Dot),
		put(stamp(2, 2, 1, 0), 4, b.Dot),
		{stamp(2, 0, 2, 0), api.Effect{Op: api.Erase, Ref: a.Dot}},
		{stamp(2, 3, 1, 0), api.Effect{Op: api.Erase, Ref: a.Dot}},
	})
}

// A Remove takes what it names, and leaves what it did not know of.
func TestSetOfSeveral(t *testing.T) {
	a, b := stamp(1, 0, 1, 0), stamp(1, 1, 1, 0)
	inEveryOrder(t, batch.Set, []int{7, 9}, nil, []happening{
		{a, api.Effect{Op: api.Insert, Value: 7}},
		{b, api.Effect{Op: api.Insert, Value: 8}},
		{stamp(1, 2, 1, 0), api.Effect{Op: api.Insert, Value: 7}},
		{stamp(1, 2, 1, 1), api.Effect{Op: api.Insert, Value: 9}},
		{stamp(2, 1, 2, 0), api.Effect{Op: api.Remove, Dots: []api.Dot{a.Dot, b.Dot}}},
		{stamp(2, 3, 1, 0), api.Effect{Op: api.Remove, Dots: []api.Dot{a.Dot}}},
	})
}

// Writes that do not know of each other all stand, in the order of their dots, be their values the same or not.
func TestRegisterOfSeveral(t *testing.T) {
	a, b := stamp(1, 0, 1, 0), stamp(1, 1, 1, 0)
	inEveryOrder(t, batch.Register, []int{6, 4, 6}, nil, []happening{
		{a, api.Effect{Op: api.Write, Value: 1}},
		{b, api.Effect{Op: api.Write, Value: 2, Dots: []api.Dot{a.Dot}}},
		{stamp(9, 0, 2, 3), api.Effect{Op: api.Write, Value: 6, Dots: []api.Dot{a.Dot, b.Dot}}},
		{stamp(2, 1, 2, 0), api.Effect{Op: api.Write, Value: 4, Dots: []api.Dot{b.Dot}}},
		{stamp(1, 3, 1, 0), api.Effect{Op: api.Write, Value: 6}},
	})
}

func TestCounterOfSeveral(t *testing.T) {
	inEveryOrder(t, batch.Counter, []int{-993}, nil, []happening{
		{stamp(1, 0, 1, 0), api.Effect{Op: api.Add, Value: 3}},
		{stamp(1, 1, 1, 0), api.Effect{Op: api.Add, Value: -1000}},
		{stamp(1, 1, 1, 1), api.Effect{Op: api.Add, Value: 4}},
	})
}

// The Dots of an effect are those that stand, in order, from whatever replicas.
func TestDotsRise(t *testing.T) {
	var want []api.Dot
	first, second := New(batch.Set), New(batch.Register)
	for origin := range 4 {
		for seq := 1; seq <= 3; seq++ {
			at := stamp(9-seq, 3-origin, 4-seq, seq)
			first.Take(at, api.Effect{Op: api.Insert, Value: 5})
			first.Take(stamp(9, origin, 10+seq, 0), api.Effect{Op: api.Insert, Value: 6})
			second.Take(at, api.Effect{Op: api.Write, Value: seq})
			want = append(want, at.Dot)
		}
	}
	slices.SortFunc(want, batch.CompareDots)
	if e, errno := first.Effect(batch.Remove, 5, 0); !slices.Equal(e.Dots, want) || e.Value != 0 || errno != api.OK {
		t.Errorf("P7: Remove: %v, %d, want the Dots %v", e, errno, want)
	}
	if e, errno := second.Effect(batch.Write, 5, 0); !slices.Equal(e.Dots, want) || e.Value != 5 || errno != api.OK {
		t.Errorf("P7: Write: %v, %d, want the Dots %v", e, errno, want)
	}
}

// A copy and what it was made of go each its own way.
func TestCopy(t *testing.T) {
	at, behind := stamp(1, 0, 1, 0), stamp(2, 0, 2, 0)
	for _, c := range []struct {
		kind        batch.Kind
		first, then api.Effect
		one, two    []int
	}{
		{batch.Counter, api.Effect{Op: api.Add, Value: 1}, api.Effect{Op: api.Add, Value: 2}, []int{1}, []int{3}},
		{batch.Set, api.Effect{Op: api.Insert, Value: 1}, api.Effect{Op: api.Remove, Dots: []api.Dot{at.Dot}}, []int{1}, nil},
		{batch.Register, api.Effect{Op: api.Write, Value: 1}, api.Effect{Op: api.Write, Value: 2, Dots: []api.Dot{at.Dot}}, []int{1}, []int{2}},
		{batch.List, api.Effect{Op: api.Put, Value: 1}, api.Effect{Op: api.Erase, Ref: at.Dot}, []int{1}, nil},
		{batch.List, api.Effect{Op: api.Put, Value: 1}, api.Effect{Op: api.Put, Value: 2}, []int{1}, []int{2, 1}},
	} {
		for changed := range 2 {
			two := [2]Object{New(c.kind), nil}
			two[0].Take(at, c.first)
			two[1] = two[0].Copy()
			two[changed].Take(behind, c.then)
			if got := two[1-changed].Values(); !slices.Equal(got, c.one) {
				t.Errorf("kind %d: the one left alone comes to %v, want %v", c.kind, got, c.one)
			}
			if got := two[changed].Values(); !slices.Equal(got, c.two) {
				t.Errorf("kind %d: the changed one comes to %v, want %v", c.kind, got, c.two)
			}
		}
	}
}
