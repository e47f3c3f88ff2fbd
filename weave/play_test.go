package weave_test

import (
	"slices"
	"testing"

	"weave/api"
	"weave/weave"
)

// play is a store with calls that must go well.
type play struct {
	*testing.T
	*weave.Store
}

func newPlay(t *testing.T, n int) play {
	t.Helper()
	s, e := weave.New(n)
	if s == nil || e != api.OK {
		t.Fatalf("P5: New(%d) = %v, %d", n, s, e)
	}
	return play{t, s}
}

func (p play) is(what string, got, want api.Errno) {
	p.Helper()
	if got != want {
		p.Errorf("%s: %d, want %d", what, got, want)
	}
}

func (p play) begin(r int) {
	p.Helper()
	p.is("P6: Begin", p.Begin(r), api.OK)
}

func (p play) abort(r int) {
	p.Helper()
	p.is("P6: Abort", p.Abort(r), api.OK)
}

func (p play) do(r, op, object, a, b int) {
	p.Helper()
	p.is("P7: Do", p.Do(r, op, object, a, b), api.OK)
}

func (p play) commit(r, want int) {
	p.Helper()
	if seq, e := p.Commit(r); seq != want || e != api.OK {
		p.Errorf("P9: Commit(%d) = %d, %d, want %d", r, seq, e, want)
	}
}

func (p play) read(r, object int, want ...int) {
	p.Helper()
	if l, e := p.Read(r, object); !slices.Equal(l, want) || e != api.OK {
		p.Errorf("P8: Read(%d, %d) = %v, %d, want %v", r, object, l, e, want)
	}
}

func (p play) clock(r int, want ...int) {
	p.Helper()
	if l, e := p.Clock(r); !slices.Equal(l, want) || e != api.OK {
		p.Errorf("P10: Clock(%d) = %v, %d, want %v", r, l, e, want)
	}
}

// log: the log of r is the frames of these batches.
func (p play) log(r int, want ...api.Batch) {
	p.Helper()
	var bytes string
	for _, b := range want {
		s, _ := frameOf(b)
		bytes += s
	}
	if l, e := p.Log(r); l != bytes || e != api.OK {
		p.Errorf("P10: Log(%d) = %x, %d, want %x", r, l, e, bytes)
	}
}

// once does one operation in a transaction of its own.
func (p play) once(r, op, object, a, b int) {
	p.Helper()
	p.begin(r)
	p.do(r, op, object, a, b)
	if seq, e := p.Commit(r); seq < 1 || e != api.OK {
		p.Errorf("P9: Commit(%d) = %d, %d", r, seq, e)
	}
}

// fill makes the open transaction as big as it may be, by Adds of nothing to the counter 4.
func (p play) fill(r, have int) {
	p.Helper()
	for range api.MaxEffects - have {
		p.do(r, api.Add, 4, 0, 0)
	}
}

// all is everything that can be seen of a store.
type all struct {
	clocks [][]int
	logs   []string
	held   []int
	values [][]int
}

func (p play) all() all {
	var x all
	for r := range api.MaxReplicas {
		clock, _ := p.Clock(r)
		log, _ := p.Log(r)
		held, _ := p.Held(r)
		x.clocks, x.logs, x.held = append(x.clocks, clock), append(x.logs, log), append(x.held, held)
		for object := range api.Objects {
			values, _ := p.Read(r, object)
			x.values = append(x.values, append([]int{}, values...))
		}
	}
	return x
}
