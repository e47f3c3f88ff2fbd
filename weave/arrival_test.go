package weave_test

import (
	"slices"
	"testing"

	"weave/api"
)

// orders are all orders of the numbers below n.
func orders(n int) [][]int {
	if n == 0 {
		return [][]int{{}}
	}
	var list [][]int
	for _, order := range orders(n - 1) {
		for i := range n {
			list = append(list, slices.Insert(slices.Clone(order), i, n-1))
		}
	}
	return list
}

// find is the number of the message that is as wanted.
func (p play) find(want api.Message) int {
	p.Helper()
	i := slices.Index(must(p.Messages()), want)
	if i < 0 {
		p.Fatalf("P11: %x is not under way", want)
	}
	return i
}

// arrive delivers the frames of these batches from their Origins to a replica.
func (p play) arrive(to int, batches ...api.Batch) {
	p.Helper()
	for _, b := range batches {
		p.deliver(p.find(frameTo(b.Origin, to, b)))
	}
}

func TestFramesInOrder(t *testing.T) {
	p := newPlay(t, 2)
	var batches []api.Batch
	for i := range api.MaxSeq {
		batches = append(batches, p.made(0))
		p.deliver(0)
		p.clock(1, i+1, 0)
		p.read(1, 0, i+1)
		p.held(1, 0)
		p.log(1, batches...)
	}
}

// In whatever order frames come, they are delivered in the order of their Seqs.
func TestFramesInEveryOrder(t *testing.T) {
	for _, order := range orders(5) {
		p := newPlay(t, 2)
		var batches []api.Batch
		for i := range 5 {
			p.once(0, api.Put, 3, i, i)
			batches = append(batches, p.last(0))
		}
		came := make([]bool, 6)
		for n, i := range order {
			p.arrive(1, batches[i])
			came[i] = true
			due := slices.Index(came, false)
			p.clock(1, due, 0)
			p.log(1, batches[:due]...)
			p.held(1, n+1-due)
			p.read(1, 3, []int{0, 1, 2, 3, 4}[:due]...)
		}
	}
}

// A batch that is held back has no effect, and its frame stands in no log.
func TestHeldIsNotSeen(t *testing.T) {
	p := newPlay(t, 2)
	p.made(0)
	p.begin(0)
	for object, op := range []int{api.Add, api.Insert, api.Write, api.Put} {
		p.do(0, op, object, 0, 5)
	}
	p.commit(0, 2)
	before := p.all()
	p.deliver(1)
	after := p.all()
	p.held(1, 1)
	for object := range api.Objects {
		p.read(1, object, before.values[api.Objects+object]...)
	}
	p.clock(1, 0, 0)
	p.log(1)
	if !slices.Equal(before.logs, after.logs) || len(after.way) != 1 {
		t.Errorf("P12: a batch that is held back changed %v to %v", before, after)
	}
	p.ask(1, 0)
	p.way(after.way[0], digestTo(1, 0, 0, 0))
}

// What comes again is neither delivered nor held back again.
func TestFramesAgain(t *testing.T) {
	p := newPlay(t, 2)
	one, two := p.made(0), p.made(0)
	for range 3 {
		p.twice(0)
		p.twice(1)
	}
	for range 3 {
		p.arrive(1, two)
		p.held(1, 1)
	}
	for range 3 {
		p.arrive(1, one)
		p.held(1, 0)
		p.clock(1, 2, 0)
		p.read(1, 0, 2)
		p.log(1, one, two)
	}
	p.arrive(1, two, one)
	p.held(1, 0)
	p.log(1, one, two)
	p.way()
}

func TestMostHeld(t *testing.T) {
	p := newPlay(t, 2)
	var batches []api.Batch
	for range 9 {
		batches = append(batches, p.made(0))
	}
	for i := range 6 {
		p.held(1, i)
		p.arrive(1, batches[8-i])
	}
	p.held(1, 6)
	p.twice(p.find(frameTo(0, 1, batches[1])))
	p.arrive(1, batches[1], batches[2]) // lost: there are six
	p.held(1, 6)
	p.arrive(1, batches[0])
	p.clock(1, 1, 0)
	p.held(1, 6)
	p.arrive(1, batches[1])
	p.clock(1, 2, 0)
	p.held(1, 6)
	p.ask(1, 0)
	p.deliver(0)
	p.way(frameTo(0, 1, batches[2]), frameTo(0, 1, batches[3]), frameTo(0, 1, batches[4]))
	p.deliver(0)
	p.clock(1, 9, 0)
	p.held(1, 0)
	p.log(1, batches...)
	p.deliver(0, 0) // these were held back, and are delivered by now
	p.held(1, 0)
	p.log(1, batches...)
}

// Where six are held back, one of them that comes again does not take another's place.
func TestMostHeldAgain(t *testing.T) {
	p := newPlay(t, 3)
	var batches []api.Batch
	for range 7 {
		batches = append(batches, p.made(2))
	}
	for _, b := range batches[1:] {
		p.twice(p.find(frameTo(2, 0, b)))
		p.arrive(0, b, b)
	}
	p.held(0, 6)
	p.held(1, 0)
	p.arrive(0, batches[0])
	p.held(0, 0)
	p.log(0, batches...)
}

// Of several that are due the least is delivered first, by Time ahead of Origin; and it is asked anew behind each.
func TestLeastDueFirst(t *testing.T) {
	for _, order := range orders(4) {
		p := newPlay(t, 4)
		x := p.made(0) // Time 1
		p.arrive(1, x)
		p.arrive(2, x)
		two := p.made(2)   // Time 2, Origin 2
		one := p.made(1)   // Time 2, Origin 1
		next := p.made(1)  // Time 3, due behind one
		third := p.made(2) // Time 3, due behind two
		early := []api.Batch{one, next, two, third}
		for n, i := range order {
			p.arrive(3, early[i])
			p.held(3, n+1)
		}
		p.arrive(3, x)
		p.held(3, 0)
		p.log(3, x, one, two, next, third)
	}
}

// One that became due by another's delivery goes ahead of one that was due all along, if it is less.
func TestDueByAnother(t *testing.T) {
	for _, order := range orders(3) {
		p := newPlay(t, 4)
		old := []api.Batch{p.made(2), p.made(2), p.made(2)} // Times 1 to 3
		p.arrive(3, old...)
		x := p.made(0)
		p.arrive(1, x)
		p.arrive(2, x)
		one := p.made(1)  // Time 2
		next := p.made(1) // Time 3, due behind one
		late := p.made(2) // Time 4, due with one
		for _, i := range order {
			p.arrive(3, []api.Batch{one, next, late}[i])
		}
		p.held(3, 3)
		p.arrive(3, x)
		p.held(3, 0)
		p.log(3, append(old, x, one, next, late)...)
	}
}

// The least of those that are due goes, though one that is less is not due; that one stays.
func TestLessButNotDue(t *testing.T) {
	for _, order := range orders(5) {
		p := newPlay(t, 4)
		lost := p.made(0)
		stays := p.made(0) // Time 2
		x := p.made(1)
		p.arrive(2, x)
		early := []api.Batch{p.made(1), p.made(2), p.made(1), p.made(2), stays} // Times 2, 2, 3, 3, 2
		for _, i := range order {
			p.arrive(3, early[i])
		}
		p.held(3, 5)
		p.arrive(3, x)
		p.held(3, 1)
		log := append([]api.Batch{x}, early[:4]...)
		p.log(3, log...)
		p.arrive(3, lost)
		p.held(3, 0)
		p.log(3, append(log, lost, stays)...)
	}
}

// One is due only when all is there that it builds on, of whichever replica.
func TestDueBehindAll(t *testing.T) {
	for _, order := range orders(3) {
		p := newPlay(t, 4)
		batches := []api.Batch{p.made(0), p.made(1), p.made(2)}
		p.arrive(2, batches[:2]...)
		last := p.made(2)
		p.arrive(3, last)
		for n, i := range order {
			p.held(3, 1)
			p.arrive(3, batches[i])
			p.read(3, 0, n+1+(n+1)/3)
		}
		p.held(3, 0)
		p.clock(3, 1, 1, 2, 0)
	}
}

// What one has made and what is delivered to it do not wait for each other.
func TestOwnBatchesGoOn(t *testing.T) {
	p := newPlay(t, 2)
	one, two := p.made(0), p.made(0)
	p.arrive(1, two)
	mine := p.made(1)
	if mine.Time != 1 || !slices.Equal(mine.Clock, []int{0, 0}) {
		t.Errorf("P9: a batch that is held back counts: %v", mine)
	}
	p.held(1, 1)
	p.arrive(1, one)
	p.log(1, mine, one, two)
	if next := p.made(1); next.Time != 3 || !slices.Equal(next.Clock, []int{2, 1}) {
		t.Errorf("P9: the next batch is %v", next)
	}
}

// An open transaction has the Time that its batch would have now, and its own dots.
func TestArrivalInATransaction(t *testing.T) {
	p := newPlay(t, 2)
	p.once(0, api.Put, 3, 0, 1)
	p.once(0, api.Put, 3, 0, 2)
	p.begin(1)
	p.do(1, api.Put, 3, 0, 8)
	p.do(1, api.Insert, 1, 4, 0)
	p.do(1, api.Write, 2, 6, 0)
	p.read(1, 3, 8)
	p.deliver(0)
	p.read(1, 3, 8, 1)
	p.deliver(0)
	p.read(1, 3, 8, 2, 1)
	p.do(1, api.Put, 3, 3, 9)
	p.read(1, 3, 8, 2, 1, 9)
	p.do(1, api.Erase, 3, 1, 0)
	p.read(1, 3, 8, 1, 9)
	p.is("P7: the sixth", p.Do(1, api.Add, 0, 1, 0), api.ErrBig)
	p.commit(1, 1)
	p.deliver(0)
	p.read(0, 3, 8, 1, 9)
	two := decoded(t, must(p.Log(0)))[:2]
	p.log(0, append(two, api.Batch{Origin: 1, Seq: 1, Time: 3, Clock: []int{2, 0}, Effects: []api.Effect{
		{Op: api.Put, Object: 3, Value: 8},
		{Op: api.Insert, Object: 1, Value: 4},
		{Op: api.Write, Object: 2, Value: 6},
		{Op: api.Put, Object: 3, Value: 9, Ref: dot(0, 1, 0)},
		{Op: api.Erase, Object: 3, Ref: dot(0, 2, 0)},
	}})...)
}

// A transaction that is open does not end, nor does what it has done, by what arrives.
func TestArrivalKeepsTheTransaction(t *testing.T) {
	p := newPlay(t, 2)
	p.begin(1)
	p.do(1, api.Write, 2, 1, 0)
	p.once(0, api.Write, 2, 2, 0)
	p.deliver(0)
	p.read(1, 2, 2, 1)
	p.is("P6: Begin", p.Begin(1), api.ErrBusy)
	p.abort(1)
	p.read(1, 2, 2)
	p.clock(1, 1, 0)
}

// A batch of one's own that comes back is there already.
func TestOwnBatchComesBack(t *testing.T) {
	p := newPlay(t, 2)
	p.ask(0, 1)
	one := p.made(0)
	p.deliver(1)
	p.deliver(0)
	p.way(frameTo(1, 0, one))
	p.deliver(0)
	p.clock(0, 1, 0)
	p.log(0, one)
	p.read(0, 0, 1)
}

func TestSecondExample(t *testing.T) {
	p := newPlay(t, 2)
	p.begin(0)
	p.do(0, api.Insert, 1, 7, 0)
	p.do(0, api.Put, 3, 0, 65)
	p.do(0, api.Put, 3, 1, 66)
	p.commit(0, 1)
	p.way(frameTo(0, 1, p.last(0)))
	p.once(1, api.Put, 3, 0, 67)
	p.deliver(0, 0)
	for r := range 2 {
		p.clock(r, 1, 1)
		p.read(r, 3, 67, 65, 66)
	}
	p.begin(0)
	p.do(0, api.Remove, 1, 7, 0)
	p.begin(1)
	p.do(1, api.Insert, 1, 7, 0)
	p.commit(0, 2)
	p.commit(1, 2)
	p.deliver(0, 0)
	for r := range 2 {
		p.clock(r, 2, 2)
		p.read(r, 1, 7)
	}
	p.way()
}
