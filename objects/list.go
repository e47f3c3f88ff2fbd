package objects

import (
	"cmp"
	"slices"

	"weave/api"
	"weave/batch"
)

// list has all elements that were ever put, in the order of the tree: an erased one keeps its place, for others may be put behind it.
type list struct{ elements []element }

type element struct {
	Stamp
	value  int
	erased bool
}

func (l *list) Take(at Stamp, e api.Effect) {
	switch batch.Op(e.Op) {
	case batch.Put:
		l.put(element{Stamp: at, value: e.Value}, e.Ref)
	case batch.Erase:
		l.erase(e.Ref)
	}
}

// put goes past all that is later than x. As every element is later than its parent, these are the siblings ahead of x with all that is below them, and no others.
func (l *list) put(x element, parent api.Dot) {
	place := l.behind(parent)
	for place < len(l.elements) && l.elements[place].laterThan(x.Stamp) {
		place++
	}
	l.elements = slices.Insert(l.elements, place, x)
}

// behind is the place behind the element with that dot, the first one of all behind none.
func (l *list) behind(d api.Dot) int {
	return 1 + slices.IndexFunc(l.elements, func(x element) bool { return x.Dot == d })
}

func (l *list) erase(d api.Dot) {
	for i := range l.elements {
		if l.elements[i].Dot == d {
			l.elements[i].erased = true
		}
	}
}

func (s Stamp) laterThan(other Stamp) bool {
	return cmp.Or(
		cmp.Compare(s.Time, other.Time),
		cmp.Compare(s.Dot.Origin, other.Dot.Origin),
		cmp.Compare(s.Dot.Index, other.Dot.Index),
	) > 0
}

func (l *list) Effect(op batch.Op, a, b int) (api.Effect, api.Errno) {
	if op == batch.Erase {
		return l.erasing(a)
	}
	if errno := checkValue(b); errno != api.OK {
		return api.Effect{}, errno
	}
	return l.putting(a, b)
}

func (l *list) putting(place, value int) (api.Effect, api.Errno) {
	standing := l.standing()
	if place < 0 || place > len(standing) {
		return api.Effect{}, api.ErrPlace
	}
	e := api.Effect{Value: value}
	if place > 0 {
		e.Ref = standing[place-1].Dot
	}
	return e, api.OK
}

func (l *list) erasing(place int) (api.Effect, api.Errno) {
	standing := l.standing()
	if place < 0 || place >= len(standing) {
		return api.Effect{}, api.ErrPlace
	}
	return api.Effect{Ref: standing[place].Dot}, api.OK
}

// standing are the elements that the list comes to.
func (l *list) standing() []element {
	return slices.DeleteFunc(slices.Clone(l.elements), func(x element) bool { return x.erased })
}

func (l *list) Values() []int {
	var values []int
	for _, x := range l.standing() {
		values = append(values, x.value)
	}
	return values
}

func (l *list) Copy() Object { return &list{slices.Clone(l.elements)} }
