package weave_test

import (
	"math"
	"math/rand"
	"testing"

	"weave/api"
	"weave/weave"
)

// anyCall is one of all calls of a store, with numbers that may be anything.
func anyCall(s *weave.Store, dice *rand.Rand) call {
	edges := []int{math.MinInt, math.MinInt + 1, -1 << 32, -1001, -1, 0, 0, 0, 1, 1, 1, 2, 3, 4, 5, 6, 7, 8, 30, 40, 255, 256, 1001, 1 << 32, math.MaxInt - 1, math.MaxInt}
	n := func() int { return edges[dice.Intn(len(edges))] }
	switch dice.Intn(19) {
	case 0:
		return call{"Begin", s.Begin(n()), true}
	case 1, 2, 3:
		return call{"Do", s.Do(n(), n(), n(), n(), n()), true}
	case 4:
		values, e := s.Read(n(), n())
		return call{"Read", e, len(values) == 0}
	case 5:
		return call{"Abort", s.Abort(n()), true}
	case 6:
		seq, e := s.Commit(n())
		return call{"Commit", e, seq == 0}
	case 7:
		clock, e := s.Clock(n())
		return call{"Clock", e, len(clock) == 0}
	case 8:
		held, e := s.Held(n())
		return call{"Held", e, held == 0}
	case 9:
		log, e := s.Log(n())
		return call{"Log", e, log == ""}
	case 10:
		return call{"Deliver", s.Deliver(n()), true}
	case 11:
		return call{"Drop", s.Drop(n()), true}
	case 12:
		return call{"Twice", s.Twice(n()), true}
	case 13:
		return call{"Spoil", s.Spoil(n(), n(), n()), true}
	case 14:
		return call{"Ask", s.Ask(n(), n()), true}
	case 15:
		return call{"Sync", s.Sync(n()), true}
	case 16:
		return call{"Crash", s.Crash(n(), n()), true}
	case 17:
		return call{"Fail", s.Fail(n(), n()), true}
	}
	return call{"Restart", s.Restart(n()), true}
}

// goOn does what makes a store go on, whether it is refused or not.
func goOn(s *weave.Store, dice *rand.Rand, n int) {
	r := dice.Intn(n)
	switch dice.Intn(6) {
	case 0:
		s.Begin(r)
	case 1:
		object := dice.Intn(api.Objects)
		s.Do(r, operation(dice, object), object, dice.Intn(3), dice.Intn(3))
	case 2:
		s.Commit(r)
	case 3:
		s.Deliver(dice.Intn(9))
	case 4:
		s.Ask(r, dice.Intn(n))
	default:
		s.Restart(r)
	}
}

// No number makes a call panic; with an error all else is empty, and nothing changes.
func TestAnyNumbers(t *testing.T) {
	for seed := range int64(12) {
		dice := rand.New(rand.NewSource(seed))
		n := 2 + int(seed)%3
		p := newPlay(t, n)
		for range 2000 {
			for range dice.Intn(4) {
				goOn(p.Store, dice, n)
			}
			before := p.all()
			c := anyCall(p.Store, dice)
			if c.errno == api.OK {
				continue
			}
			if !c.empty {
				t.Errorf("P1: %s answers %d, and something beside", c.name, c.errno)
			}
			p.stillAs("a refused "+c.name, before)
		}
	}
}
