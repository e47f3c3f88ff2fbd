package weave_test

import (
	"math"
	"slices"
	"testing"

	"weave/api"
)

// failing is a store of two in which 1 has a batch of its own, which is synced, one of 0, which is not, and a transaction with effects.
func failing(t *testing.T) play {
	t.Helper()
	p := newPlay(t, 2)
	p.once(1, api.Put, 3, 0, 4)
	p.once(0, api.Put, 3, 0, 5)
	p.deliver(1)
	p.begin(1)
	p.do(1, api.Put, 3, 1, 6)
	p.do(1, api.Add, 0, 3, 0)
	p.do(1, api.Add, 4, 3, 0)
	return p
}

// The batch is the one that Commit would have made; its frame is kept as far as bytes are kept, behind what was not synced ahead of it.
func TestFailKeeps(t *testing.T) {
	twin := failing(t)
	twin.commit(1, 2)
	batches := decoded(t, must(twin.Log(1)))
	log, synced := bytesOf(batches), len(bytesOf(batches[:1]))
	for _, keep := range keeps(synced, len(log)-synced) {
		p := failing(t)
		way := must(p.Messages())
		p.fail(1, keep)
		left := kept(log, synced, keep)
		p.logBytes(1, left)
		p.clock(1, 1, 1)
		p.held(1, 0)
		p.way(way...)
		p.restart(1)
		p.way(way...)
		whole := wholeIn(batches, len(left))
		p.log(1, whole...)
		p.clock(1, [][]int{{0, 1}, {1, 1}, {1, 2}}[len(whole)-1]...)
		p.read(1, 3, [][]int{{4}, {4, 5}, {4, 6, 5}}[len(whole)-1]...)
		p.read(1, 0, len(whole)/3*3)
		p.read(1, 4, len(whole)/3*3)
		p.is("P15: no transaction is open", p.Abort(1), api.ErrIdle)
		next := p.made(1)
		if next.Seq != 2+len(whole)/3 || next.Time != []int{2, 2, 3}[len(whole)-1] {
			t.Errorf("P14: the batch behind the restart is %v", next)
		}
		p.crash(1, 0)
		p.log(1, slices.Concat(whole, []api.Batch{next})...)
		if t.Failed() {
			t.Fatalf("%d bytes are kept", keep)
		}
	}
}

// Without effects it is a crash, which keeps what it would keep.
func TestFailWithoutEffects(t *testing.T) {
	_, batches := partly(t, 1)
	log, synced := bytesOf(batches), len(bytesOf(batches[:1]))
	for _, keep := range keeps(synced, len(log)-synced) {
		p, _ := partly(t, 1)
		p.begin(1)
		p.do(1, api.Remove, 1, 99, 0)
		p.fail(1, keep)
		left := kept(log, synced, keep)
		p.logBytes(1, left)
		p.clock(1, 4, 0)
		p.restart(1)
		p.log(1, wholeIn(batches, len(left))...)
		p.is("P15: no transaction is open", p.Abort(1), api.ErrIdle)
		p.way()
	}
}

func TestFailIdle(t *testing.T) {
	p, _ := partly(t, 1)
	idle := func(what string) {
		t.Helper()
		p.unchanged("a refused Fail "+what, func() {
			for _, keep := range []int{math.MinInt, -1, 0, 1, math.MaxInt} {
				p.is("P14: Fail "+what, p.Fail(1, keep), api.ErrIdle)
			}
		})
		p.is("P15: Restart behind a refused Fail", p.Restart(1), api.ErrUp)
	}
	idle("at first")
	p.begin(0)
	idle("with a transaction elsewhere")
	p.begin(1)
	p.do(1, api.Add, 0, 1, 0)
	p.abort(1)
	idle("behind Abort")
	p.begin(1)
	p.commit(1, 0)
	idle("behind an empty Commit")
	p.made(1)
	idle("behind Commit")
	p.begin(1)
	p.fail(1, 0)
	p.is("P1: Fail of one that is down", p.Fail(1, 0), api.ErrDown)
	p.restart(1)
	idle("behind Restart")
}

// A batch that was written whole counts as one, and others come to have it by asking; one that was cut leaves its Seq to the next.
func TestFailedBatchSpreads(t *testing.T) {
	p := newPlay(t, 3)
	p.begin(2)
	p.do(2, api.Add, 0, 5, 0)
	p.fail(2, 1000)
	p.clock(2, 0, 0, 0)
	p.restart(2)
	p.clock(2, 0, 0, 1)
	p.read(2, 0, 5)
	p.way()
	one := p.last(2)
	p.begin(2)
	p.do(2, api.Add, 0, 50, 0)
	p.fail(2, len(bytesOf([]api.Batch{one}))-1)
	p.restart(2)
	p.log(2, one)
	two := p.made(2)
	if two.Seq != 2 || two.Time != 2 {
		t.Errorf("P14: the batch behind one that was cut is %v", two)
	}
	p.way(frameTo(2, 0, two), frameTo(2, 1, two))
	p.deliver(0, 0)
	p.held(0, 1)
	p.held(1, 1)
	p.ask(0, 2)
	p.deliver(0)
	p.way(frameTo(2, 0, one), frameTo(2, 0, two))
	p.deliver(0, 0)
	p.log(0, one, two)
	p.read(0, 0, 6)
	p.ask(1, 0)
	p.deliver(0, 0, 0)
	p.log(1, one, two)
	p.held(1, 0)
}

// Each transaction that fails whole takes a Seq; in the end there are none left.
func TestFailToTheQuota(t *testing.T) {
	p := newPlay(t, 2)
	for i := range api.MaxSeq {
		p.begin(0)
		p.do(0, api.Add, 0, 1, 0)
		p.fail(0, 3)
		p.restart(0)
		p.clock(0, i, 0)
		p.begin(0)
		p.do(0, api.Add, 0, 1, 0)
		p.fail(0, 1000)
		p.clock(0, i, 0)
		p.restart(0)
		p.clock(0, i+1, 0)
		if b := p.last(0); b.Seq != i+1 || b.Time != i+1 || !slices.Equal(b.Clock, []int{i, 0}) {
			t.Errorf("P14: batch number %d is %v", i, b)
		}
	}
	p.is("P6: Begin behind the last batch", p.Begin(0), api.ErrQuota)
	p.crash(0, 0)
	p.is("P1: Begin of one that is down", p.Begin(0), api.ErrDown)
	p.restart(0)
	p.is("P6: Begin behind the last batch", p.Begin(0), api.ErrQuota)
	p.read(0, 0, 30)
	p.way()
}

// What is held back has no part in the batch that fails, nor in what is left.
func TestFailWithHeld(t *testing.T) {
	p := newPlay(t, 2)
	batches := p.several(0)
	p.arrive(1, batches[1], batches[2])
	p.begin(1)
	p.do(1, api.Add, 0, 9, 0)
	p.fail(1, math.MaxInt)
	p.restart(1)
	p.held(1, 0)
	p.log(1, api.Batch{Origin: 1, Seq: 1, Time: 1, Clock: []int{0, 0}, Effects: []api.Effect{{Op: api.Add, Value: 9}}})
	p.arrive(1, batches[0])
	p.clock(1, 1, 1)
}

// A batch as big as it may be is there whole or not at all, wherever its frame is cut.
func TestFailBig(t *testing.T) {
	make5 := func(p play) {
		p.begin(1)
		for i, x := range [][2]int{{api.Insert, 1}, {api.Write, 2}, {api.Remove, 1}, {api.Add, 0}, {api.Add, 4}} {
			p.do(1, x[0], x[1], i/3*5, 0)
		}
	}
	twin := newPlay(t, 2)
	make5(twin)
	twin.commit(1, 1)
	for keep := range len(must(twin.Log(1))) + 2 {
		p := newPlay(t, 2)
		make5(p)
		p.fail(1, keep)
		p.restart(1)
		from := newPlay(t, 2)
		if keep >= len(must(twin.Log(1))) {
			from = twin
		}
		for object := range api.Objects {
			p.read(1, object, must(from.Read(1, object))...)
		}
		p.logBytes(1, must(from.Log(1)))
	}
}
