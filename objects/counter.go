package objects

import (
	"weave/api"
	"weave/batch"
)

type counter struct{ sum int }

func (c *counter) Take(at Stamp, e api.Effect) { c.sum += e.Value }

func (c *counter) Effect(op batch.Op, a, b int) (api.Effect, api.Errno) {
	if a < -api.MaxAdd || a > api.MaxAdd {
		return api.Effect{}, api.ErrValue
	}
	return api.Effect{Value: a}, api.OK
}

func (c *counter) Values() []int { return []int{c.sum} }

func (c *counter) Copy() Object { return &counter{c.sum} }
