package objects

import (
	"weave/api"
	"weave/batch"
)

type register struct{ live }

func (r *register) Take(at Stamp, e api.Effect) {
	r.remove(e.Dots)
	r.live[at.Dot] = e.Value
}

func (r *register) Effect(op batch.Op, a, b int) (api.Effect, api.Errno) {
	if errno := checkValue(a); errno != api.OK {
		return api.Effect{}, errno
	}
	return api.Effect{Value: a, Dots: r.dots()}, api.OK
}

func (r *register) Values() []int {
	var values []int
	for _, d := range r.dots() {
		values = append(values, r.live[d])
	}
	return values
}

func (r *register) Copy() Object { return &register{r.copy()} }
