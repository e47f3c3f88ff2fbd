package objects

import (
	"maps"
	"slices"

	"weave/api"
	"weave/batch"
)

type set struct{ live }

func (s *set) Take(at Stamp, e api.Effect) {
	switch batch.Op(e.Op) {
	case batch.Insert:
		s.live[at.Dot] = e.Value
	case batch.Remove:
		s.remove(e.Dots)
	}
}

func (s *set) Effect(op batch.Op, a, b int) (api.Effect, api.Errno) {
	if errno := checkValue(a); errno != api.OK {
		return api.Effect{}, errno
	}
	if op == batch.Remove {
		return api.Effect{Dots: s.dotsOf(a)}, api.OK
	}
	return api.Effect{Value: a}, api.OK
}

func (s *set) dotsOf(value int) []api.Dot {
	return slices.DeleteFunc(s.dots(), func(d api.Dot) bool { return s.live[d] != value })
}

// Values has a value once, however many Inserts of it stand.
func (s *set) Values() []int {
	return slices.Compact(slices.Sorted(maps.Values(s.live)))
}

func (s *set) Copy() Object { return &set{s.copy()} }
