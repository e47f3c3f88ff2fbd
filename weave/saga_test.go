package weave_test

import (
	"math/rand"
	"slices"
	"strings"
	"testing"

	"weave/api"
)

// saga is a store to which anything happens; each of its transactions adds the same to the counters 0 and 4.
type saga struct {
	play
	dice     *rand.Rand
	open     []int      // of each replica: 0, or what its open transaction adds
	answered [][]string // of each replica: the frames of what its Commits have answered, by Seq
}

func newSaga(t *testing.T, seed int64) *saga {
	t.Helper()
	n := 2 + int(seed)%3
	return &saga{newPlay(t, n), rand.New(rand.NewSource(seed)), make([]int, n), make([][]string, n)}
}

func (s *saga) any() int { return s.dice.Intn(len(s.open)) }

// start opens a transaction with one of the two Adds; other operations are anywhere behind.
func (s *saga) start(r int) {
	if s.Begin(r) != api.OK {
		return
	}
	s.open[r] = 1 + s.dice.Intn(1000)
	s.do(r, api.Add, 0, s.open[r], 0)
	for range s.dice.Intn(4) {
		object := 1 + s.dice.Intn(3)
		list := must(s.Read(r, 3))
		s.Do(r, operation(s.dice, object), object, s.dice.Intn(3+len(list)), s.dice.Intn(256))
	}
}

// finish ends the transaction with the other Add, by a commit, a crash in it, or not at all.
func (s *saga) finish(r int) {
	if s.open[r] == 0 {
		return
	}
	s.do(r, api.Add, 4, s.open[r], 0)
	s.open[r] = 0
	switch s.dice.Intn(8) {
	case 0:
		s.abort(r)
	case 1, 2:
		s.fail(r, s.dice.Intn(150)-20)
	default:
		s.answer(r)
	}
}

func (s *saga) answer(r int) {
	s.Helper()
	clock := must(s.Clock(r))
	seq, e := s.Commit(r)
	if e != api.OK || seq != clock[r]+1 || seq <= len(s.answered[r]) {
		s.Errorf("P16: Commit(%d) = %d, %d, with the clock %v, behind %d", r, seq, e, clock, len(s.answered[r]))
		return
	}
	frame, _ := frameOf(s.last(r))
	s.answered[r] = append(append(s.answered[r], make([]string, seq-1-len(s.answered[r]))...), frame)
}

// disturb does what no replica does by itself.
func (s *saga) disturb() {
	i := s.dice.Intn(8)
	r := s.any()
	switch s.dice.Intn(16) {
	case 0, 1, 2, 3, 4, 5:
		s.Deliver(i)
	case 6:
		s.Drop(i)
	case 7:
		s.Twice(i)
	case 8:
		s.Spoil(i, s.dice.Intn(40), 1+s.dice.Intn(255))
	case 9, 10:
		s.Ask(r, s.any())
	case 11:
		s.Sync(r)
	case 12:
		if s.Crash(r, s.dice.Intn(150)-20) == api.OK {
			s.open[r] = 0
		}
	default:
		s.Restart(r)
	}
}

func (s *saga) isUp(r int) bool {
	_, e := s.Read(r, 0)
	return e == api.OK
}

// wholeCounters: P18.
func (s *saga) wholeCounters() {
	s.Helper()
	for r, open := range s.open {
		if s.isUp(r) && open == 0 {
			s.read(r, 4, must(s.Read(r, 0))...)
		}
	}
}

// nothingLost: what Commit has answered stands in the log, in whatever state the replica is.
func (s *saga) nothingLost() {
	s.Helper()
	for r, list := range s.answered {
		log := must(s.Log(r))
		for i, frame := range list {
			if !strings.Contains(log, frame) {
				s.Errorf("P16: the batch %d of %d is lost", i+1, r)
			}
		}
		if got := must(s.Clock(r))[r]; got < len(list) {
			s.Errorf("P16: the clock of %d has %d of itself, Commit has answered %d", r, got, len(list))
		}
	}
}

// delivered is the frames of a replica that is up, in an order that is the same at all.
func (s *saga) delivered(r int) []string {
	s.Helper()
	var list []string
	for _, b := range decoded(s.T, must(s.Log(r))) {
		frame, _ := frameOf(b)
		list = append(list, frame)
	}
	slices.Sort(list)
	return list
}

// sameAtSameClock: P16.
func (s *saga) sameAtSameClock() {
	s.Helper()
	for r := range s.open {
		for other := range r {
			if !s.isUp(r) || !s.isUp(other) || !slices.Equal(must(s.Clock(r)), must(s.Clock(other))) {
				continue
			}
			if !slices.Equal(s.delivered(r), s.delivered(other)) {
				s.Errorf("P16: %d and %d have the clock %v, but not the same batches", r, other, must(s.Clock(r)))
			}
			if s.open[r] == 0 && s.open[other] == 0 {
				s.readSame(r, other)
			}
		}
	}
}

func (p play) readSame(r, other int) {
	p.Helper()
	for object := range api.Objects {
		p.read(r, object, must(p.Read(other, object))...)
	}
}

// oneBatchOfAName: no two replicas have different batches with the same Origin and Seq, and none has one twice.
func (s *saga) oneBatchOfAName() int {
	s.Helper()
	frames := map[[2]int]string{}
	for r := range s.open {
		if !s.isUp(r) {
			continue
		}
		had := map[[2]int]int{}
		for _, b := range decoded(s.T, must(s.Log(r))) {
			name := [2]int{b.Origin, b.Seq}
			frame, _ := frameOf(b)
			if other, found := frames[name]; found && other != frame || had[name] > 0 {
				s.Errorf("P16: there are two batches %v", name)
			}
			frames[name] = frame
			had[name]++
		}
	}
	return len(frames)
}

func (s *saga) check() {
	s.Helper()
	s.wholeCounters()
	s.nothingLost()
	s.sameAtSameClock()
	s.oneBatchOfAName()
}

// rounds: each asks each other one and all that is sent is delivered, so many times.
func (p play) rounds(replicas, times int, next func(messages int) int) {
	p.Helper()
	for range times {
		for r := range replicas {
			for to := range replicas {
				if to != r {
					p.ask(r, to)
				}
			}
		}
		for list := must(p.Messages()); len(list) > 0; list = must(p.Messages()) {
			p.deliver(next(len(list)))
		}
	}
}

func (s *saga) end() {
	s.Helper()
	for r := range s.open {
		s.Restart(r)
	}
	s.dropAll()
	s.rounds(len(s.open), s.oneBatchOfAName(), s.dice.Intn)
	for r, open := range s.open {
		if s.clock(r, must(s.Clock(0))...); s.Failed() {
			s.Errorf("P17: the clocks are not the same")
		}
		if open != 0 {
			s.abort(r)
			s.open[r] = 0
		}
		s.readSame(r, 0)
	}
	s.check()
}

func TestSagas(t *testing.T) {
	for seed := range int64(120) {
		s := newSaga(t, seed)
		for i := range 400 {
			switch s.dice.Intn(5) {
			case 0:
				s.start(s.any())
			case 1:
				s.finish(s.any())
			default:
				s.disturb()
			}
			if s.check(); t.Failed() {
				t.Fatalf("seed %d, step %d", seed, i)
			}
		}
		if s.end(); t.Failed() {
			t.Fatalf("seed %d, at the end", seed)
		}
	}
}

// As many rounds as there are batches are enough, from none to as many as there can be.
func TestRounds(t *testing.T) {
	orders := []func(messages int) int{
		func(messages int) int { return 0 },
		func(messages int) int { return messages - 1 },
		func(messages int) int { return messages / 2 },
	}
	for n := 2; n <= 4; n++ {
		for _, each := range []int{0, 1, 2, 3, 4, 7, 30} {
			for _, next := range orders {
				p := newPlay(t, n)
				for r := range n {
					for range each {
						p.made(r)
					}
				}
				p.dropAll()
				p.rounds(n, n*each, next)
				for r := range n {
					p.clock(r, slices.Repeat([]int{each}, n)...)
					p.read(r, 0, n*each)
					p.held(r, 0)
				}
			}
		}
	}
}

// One round brings a batch to all, though its Origin has crashed since.
func TestOneBatchOneRound(t *testing.T) {
	p := newPlay(t, 4)
	one := p.made(2)
	p.crash(2, 0)
	p.dropAll()
	p.restart(2)
	p.rounds(4, 1, func(messages int) int { return messages - 1 })
	for r := range 4 {
		p.log(r, one)
	}
}

// A Seq that was never answered may be given again, but not one that was; nor does a batch of another come in its place.
func TestAnsweredOnce(t *testing.T) {
	for keep := range 60 {
		p := newPlay(t, 2)
		one := p.made(0)
		p.made(1)
		p.deliver(1)
		p.crash(0, keep)
		p.restart(0)
		p.begin(0)
		p.do(0, api.Add, 0, 5, 0)
		p.fail(0, keep)
		p.restart(0)
		two := p.made(0)
		if log := decoded(t, must(p.Log(0))); !same(log[0], one) || !same(log[len(log)-1], two) || two.Seq != must(p.Clock(0))[0] {
			t.Errorf("P16: with %d bytes kept the log is %v", keep, log)
		}
		if two.Seq < 2 || two.Seq > 3 {
			t.Errorf("P16: with %d bytes kept Commit answers %d", keep, two.Seq)
		}
	}
}
