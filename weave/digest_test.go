package weave_test

import (
	"math"
	"slices"
	"testing"

	"weave/api"
)

func TestAskErrors(t *testing.T) {
	far := []int{math.MinInt, -1 << 32, -256, -1, 4, 256, 1 << 32, math.MaxInt}
	for n := 2; n <= 4; n++ {
		p := newPlay(t, n)
		p.made(0)
		p.unchanged("Ask with an error", func() {
			for r := range n {
				p.is("P13: Ask of oneself", p.Ask(r, r), api.ErrReplica)
				for _, to := range append(far, n) {
					p.is("P13: Ask of none", p.Ask(r, to), api.ErrReplica)
					p.is("P13: Ask by none", p.Ask(to, r), api.ErrReplica)
				}
			}
		})
		for r := range n {
			for to := range n {
				if to != r {
					p.ask(r, to)
				}
			}
		}
	}
}

// A digest is the clock as it is when it is sent.
func TestDigests(t *testing.T) {
	for n := 2; n <= 4; n++ {
		p := newPlay(t, n)
		var want []api.Message
		clock := make([]int, n)
		last := n - 1
		for range 31 {
			p.ask(last, 0)
			want = append(want, digestTo(last, 0, clock...))
			p.way(want...)
			if clock[last] == 30 {
				break
			}
			p.once(last, api.Add, 0, 1, 0)
			for range n - 1 {
				p.drop(len(want))
			}
			clock[last]++
			p.way(want...)
		}
	}
}

// An open transaction and what is held back do not count.
func TestDigestOfWhatIsDelivered(t *testing.T) {
	p := newPlay(t, 3)
	p.made(0)
	early := p.made(0)
	p.made(1)
	p.arrive(1, early)
	p.begin(1)
	p.do(1, api.Add, 0, 1, 0)
	p.dropAll()
	p.ask(1, 2)
	p.way(digestTo(1, 2, 0, 1, 0))
	p.held(1, 1)
}

// answers are the frames of these batches on their way.
func answers(from, to int, batches []api.Batch) []api.Message {
	var list []api.Message
	for _, b := range batches {
		list = append(list, frameTo(from, to, b))
	}
	return list
}

// The first three of those that are lacking are sent, in the log's order.
func TestAnswers(t *testing.T) {
	for made := range 7 {
		for known := range made + 1 {
			p := newPlay(t, 3)
			for range made {
				p.made(2)
			}
			batches := decoded(t, must(p.Log(2)))
			p.arrive(0, batches[:known]...)
			p.dropAll()
			p.ask(0, 2)
			p.deliver(0)
			p.way(answers(2, 0, batches[known:min(known+3, made)])...)
		}
	}
}

// The log's order is not that of Origins, and what is known of one does not count for another.
func TestAnswersOfSeveral(t *testing.T) {
	p := newPlay(t, 4)
	c1 := p.made(3)
	a1 := p.made(0)
	a2 := p.made(0)
	b1 := p.made(1)
	p.arrive(2, c1, a1, b1)
	d1 := p.made(2)
	p.arrive(2, a2)
	p.log(2, c1, a1, b1, d1, a2)
	p.arrive(1, a1)
	p.dropAll()
	p.ask(1, 2)
	p.ask(0, 2)
	p.ask(3, 2)
	p.ask(2, 3)
	asked := must(p.Messages())
	p.deliver(0)
	p.way(append(asked[1:], frameTo(2, 1, c1), frameTo(2, 1, d1), frameTo(2, 1, a2))...)
	p.deliver(0)
	p.deliver(0)
	p.deliver(0)
	p.way(
		frameTo(2, 1, c1), frameTo(2, 1, d1), frameTo(2, 1, a2),
		frameTo(2, 0, c1), frameTo(2, 0, b1), frameTo(2, 0, d1),
		frameTo(2, 3, a1), frameTo(2, 3, b1), frameTo(2, 3, d1),
	)
	for range 9 {
		p.deliver(0)
	}
	p.clock(0, 2, 1, 1, 1)
	p.clock(1, 2, 1, 1, 1)
	p.clock(3, 1, 1, 1, 1)
	p.log(3, c1, a1, b1, d1)
}

// The answer is of the log as it is when the digest arrives, and of the clock as it was when it was sent.
func TestLateDigest(t *testing.T) {
	p := newPlay(t, 2)
	p.ask(0, 1)
	p.twice(0)
	one := p.made(1)
	p.arrive(0, one)
	p.clock(0, 0, 1)
	two := p.made(1)
	p.deliver(0, 0)
	p.way(frameTo(1, 0, two), frameTo(1, 0, one), frameTo(1, 0, two), frameTo(1, 0, one), frameTo(1, 0, two))
	p.deliver(0, 0, 0, 0, 0)
	p.log(0, one, two)
}

// A digest changes nothing at whom it is sent to, whatever that one is at.
func TestDigestChangesNothing(t *testing.T) {
	p := newPlay(t, 2)
	p.made(0)
	p.arrive(1, p.made(0))
	p.dropAll()
	p.begin(1)
	p.do(1, api.Add, 4, 2, 0)
	p.unchanged("a digest of one that lacks nothing", func() {
		p.ask(0, 1)
		p.deliver(0)
	})
	before := p.all()
	p.ask(1, 0)
	p.deliver(0)
	p.dropAll()
	after := p.all()
	if !slices.Equal(before.logs, after.logs) || !slices.Equal(before.held, after.held) {
		t.Errorf("P13: a digest changed %v to %v", before, after)
	}
	p.commit(1, 1)
}

// What was lost comes by digests, three frames at a time.
func TestAskedAgainAndAgain(t *testing.T) {
	p := newPlay(t, 2)
	for range 30 {
		p.made(0)
		p.dropAll()
	}
	for i := range 11 {
		p.clock(1, min(3*i, 30), 0)
		p.ask(1, 0)
		p.deliver(0)
		for range must(p.Messages()) {
			p.deliver(0)
		}
	}
	if must(p.Log(0)) != must(p.Log(1)) {
		t.Error("P13: the logs differ")
	}
}
