package objects

import (
	"maps"
	"slices"

	"weave/api"
	"weave/batch"
)

// live is the values that stand, by the dots of the effects that brought them. Those that are gone need not be known: what names a dot comes behind it, and a dot does not come twice.
type live map[api.Dot]int

func (l live) remove(dots []api.Dot) {
	for _, d := range dots {
		delete(l, d)
	}
}

// dots are in order, as a map's keys are not.
func (l live) dots() []api.Dot {
	return slices.SortedFunc(maps.Keys(l), batch.CompareDots)
}

func (l live) copy() live { return maps.Clone(l) }
