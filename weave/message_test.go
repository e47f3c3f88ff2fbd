package weave_test

import (
	"math"
	"reflect"
	"slices"
	"testing"

	"weave/api"
)

// unchanged: what is done there changes nothing that can be seen.
func (p play) unchanged(what string, do func()) {
	p.Helper()
	before := p.all()
	do()
	p.stillAs(what, before)
}

func (p play) stillAs(what string, before all) {
	p.Helper()
	if after := p.all(); !reflect.DeepEqual(before, after) {
		p.Errorf("P1: %s changed %v to %v", what, before, after)
	}
}

// Each other replica is sent the frame, in the order of their numbers, and nobody is sent anything without a batch.
func TestCommitSends(t *testing.T) {
	for n := 2; n <= 4; n++ {
		for r := range n {
			p := newPlay(t, n)
			p.way()
			var want []api.Message
			for range 2 {
				p.begin(r)
				p.commit(r, 0)
				p.begin(r)
				p.do(r, api.Add, 0, 5, 0)
				p.way(want...)
				p.abort(r)
				p.way(want...)
				b := p.made(r)
				for to := range n {
					if to != r {
						want = append(want, frameTo(r, to, b))
					}
				}
				p.way(want...)
			}
		}
	}
}

func TestMessageNumbers(t *testing.T) {
	for n := range 4 {
		p := newPlay(t, 2)
		for range n {
			p.made(0)
		}
		p.unchanged("calls of messages that are not there", func() {
			for _, i := range []int{math.MinInt, -1 << 32, -256, -1, n, n + 1, 40, 256, 1 << 32, math.MaxInt} {
				for _, c := range messageCalls(p.Store, i) {
					p.is(name("P11: of "+name("messages", n)+", "+c.name, i), c.errno, api.ErrMessage)
				}
			}
		})
		if n == 0 {
			continue
		}
		p.spoil(n-1, 0, 1)
		p.twice(n - 1)
		p.deliver(n)
		p.drop(n - 1)
		if got := len(must(p.Messages())); got != n-1 {
			t.Errorf("P11: %d messages are left, want %d", got, n-1)
		}
	}
}

// Whatever is taken out, the others keep their order.
func TestTakenOut(t *testing.T) {
	for i := range 4 {
		for _, take := range []func(p play){func(p play) { p.drop(i) }, func(p play) { p.deliver(i) }} {
			p := newPlay(t, 2)
			for range 4 {
				p.made(0)
			}
			take(p)
			var want []api.Message
			for k, b := range decoded(t, must(p.Log(0))) {
				if k != i {
					want = append(want, frameTo(0, 1, b))
				}
			}
			p.way(want...)
		}
	}
}

func TestDropped(t *testing.T) {
	p := newPlay(t, 3)
	p.made(0)
	p.unchanged("what becomes of a message that is dropped", func() {
		p.twice(1)
		p.drop(2)
	})
	p.drop(0)
	p.clock(1, 0, 0, 0)
	p.held(1, 0)
	p.deliver(0)
	p.clock(2, 1, 0, 0)
}

func TestTwice(t *testing.T) {
	p := newPlay(t, 3)
	one := p.made(2)
	p.ask(0, 1)
	p.twice(0)
	p.twice(2)
	p.twice(3)
	first, asked := frameTo(2, 0, one), digestTo(0, 1, 0, 0, 0)
	p.way(first, frameTo(2, 1, one), asked, first, asked, first)
	p.deliver(0)
	p.clock(0, 0, 0, 1)
	p.unchanged("a frame that comes again", func() {
		p.deliver(4)
		p.twice(2)
	})
	p.way(frameTo(2, 1, one), asked, first, asked, first)
	p.read(0, 0, 1)
	p.log(0, one)
}

// full is a store of n replicas with so many messages under way, digests from 0 to 1.
func full(t *testing.T, n, messages int) play {
	t.Helper()
	p := newPlay(t, n)
	for range messages {
		p.ask(0, 1)
	}
	if got := len(must(p.Messages())); got != messages {
		t.Fatalf("P11: %d messages are under way, want %d", got, messages)
	}
	return p
}

// What finds no room is lost, and the call goes well; what finds room stands at the end.
func TestRoom(t *testing.T) {
	for have := 36; have <= 40; have++ {
		for _, send := range []func(p play) []api.Message{
			func(p play) []api.Message {
				b := p.made(1)
				return []api.Message{frameTo(1, 0, b), frameTo(1, 2, b), frameTo(1, 3, b)}
			},
			func(p play) []api.Message {
				p.ask(3, 2)
				return []api.Message{digestTo(3, 2, 0, 0, 0, 0)}
			},
			func(p play) []api.Message {
				p.twice(0)
				return []api.Message{digestTo(0, 1, 0, 0, 0, 0)}
			},
		} {
			p := full(t, 4, have)
			want := append(must(p.Messages()), send(p)...)
			p.way(want[:min(len(want), 40)]...)
		}
	}
}

// A batch whose frames are lost is a batch all the same.
func TestCommitWithoutRoom(t *testing.T) {
	p := full(t, 2, 40)
	p.begin(1)
	p.do(1, api.Add, 0, 3, 0)
	p.commit(1, 1)
	p.clock(1, 0, 1)
	p.read(1, 0, 3)
	p.log(1, api.Batch{Origin: 1, Seq: 1, Time: 1, Clock: []int{0, 0}, Effects: []api.Effect{{Op: api.Add, Value: 3}}})
	p.dropAll()
	p.ask(0, 1)
	p.deliver(0, 0)
	p.read(0, 0, 3)
}

// A message that is taken in has given its place back by then.
func TestAnswerWithoutRoom(t *testing.T) {
	for have := 36; have <= 40; have++ {
		p := full(t, 2, have)
		for range 4 {
			p.made(1)
		}
		p.dropAll()
		for range have {
			p.ask(0, 1)
		}
		want := must(p.Messages())[1:]
		for _, b := range decoded(t, must(p.Log(1)))[:3] {
			want = append(want, frameTo(1, 0, b))
		}
		p.deliver(0)
		p.way(want[:min(len(want), 40)]...)
	}
}

// Places do not get fewer, however often they are taken and given back.
func TestRoomIsGivenBack(t *testing.T) {
	p := full(t, 2, 40)
	b := p.made(1)
	for i := range 120 {
		p.drop(i % 40)
		p.twice(0)
		p.twice(0)
		p.deliver(i % 40) // a digest, which is answered with a frame, or that frame
		p.ask(0, 1)
		if got := len(must(p.Messages())); got != 40 {
			t.Fatalf("P11: %d messages are under way, want 40", got)
		}
		if i%10 == 0 {
			p.dropAll()
			for range 40 {
				p.ask(0, 1)
			}
		}
	}
	p.log(0, b)
}

func TestSpoilErrors(t *testing.T) {
	p := newPlay(t, 2)
	n := len(frameTo(0, 1, p.made(0)).Bytes)
	wrongMasks := []int{math.MinInt, -255, -1, 0, 256, 257, 511, 1<<32 + 1, math.MaxInt}
	wrongPlaces := []int{math.MinInt, -1, n, n + 1, 1 << 32, math.MaxInt}
	p.unchanged("Spoil with an error", func() {
		for _, mask := range wrongMasks {
			for _, at := range append([]int{0, n - 1}, wrongPlaces...) {
				p.is("P11: Spoil with a mask that is none", p.Spoil(0, at, mask), api.ErrValue)
			}
		}
		for _, at := range wrongPlaces {
			for _, mask := range []int{1, 128, 255} {
				p.is("P11: Spoil of a byte that is not there", p.Spoil(0, at, mask), api.ErrPlace)
			}
		}
	})
	p.spoil(0, n-1, 255)
	p.unchanged("Spoil of a spoilt message", func() {
		for _, mask := range append([]int{1, 255}, wrongMasks...) {
			for _, at := range append([]int{0, n - 1}, wrongPlaces...) {
				p.is("P11: Spoil again", p.Spoil(0, at, mask), api.ErrMessage)
			}
		}
	})
}

// Those bits are turned, of that byte alone.
func TestSpoil(t *testing.T) {
	for _, mask := range []int{1, 2, 64, 128, 170, 255} {
		p := newPlay(t, 2)
		b := p.made(0)
		p.ask(1, 0)
		for i, m := range []api.Message{frameTo(0, 1, b), digestTo(1, 0, 0, 0)} {
			for at := range len(m.Bytes) {
				p.twice(i)
				p.spoil(2, at, mask)
				bytes := []byte(m.Bytes)
				bytes[at] ^= byte(mask)
				spoilt := m
				spoilt.Bytes = string(bytes)
				p.way(frameTo(0, 1, b), digestTo(1, 0, 0, 0), spoilt)
				p.unchanged("a spoilt message", func() {
					p.twice(2)
					p.deliver(2)
				})
				p.drop(2)
			}
		}
		p.deliver(1, 0, 0)
		p.clock(1, 1, 0)
	}
}

// Being spoilt goes with the message, to its doubles and to no others.
func TestSpoiltOnce(t *testing.T) {
	p := newPlay(t, 2)
	p.made(0)
	p.twice(0)
	p.spoil(0, 3, 1)
	p.is("P11: Spoil again", p.Spoil(0, 3, 1), api.ErrMessage)
	p.twice(0)
	p.is("P11: Spoil of a double", p.Spoil(2, 3, 1), api.ErrMessage)
	p.twice(2)
	p.is("P11: Spoil of a double's double", p.Spoil(3, 3, 1), api.ErrMessage)
	p.drop(0)
	p.is("P11: Spoil of a double whose first is gone", p.Spoil(1, 3, 1), api.ErrMessage)
	p.twice(0)
	p.spoil(0, 3, 1) // the double that was made ahead of the spoiling
	p.spoil(3, 5, 1)
	p.is("P11: Spoil again", p.Spoil(0, 4, 1), api.ErrMessage)
	p.is("P11: Spoil again", p.Spoil(3, 4, 1), api.ErrMessage)
	for range 4 {
		p.deliver(0)
	}
	p.clock(1, 0, 0)
	p.held(1, 0)
}

// spareOf is a list with its spare room.
func spareOf(list []api.Message) []api.Message { return list[:cap(list)] }

func TestMessagesAreNewMemory(t *testing.T) {
	p := newPlay(t, 3)
	for range 5 {
		p.made(0)
		p.ask(1, 2)
	}
	one, two := must(p.Messages()), must(p.Messages())
	if a, b := spanOf(one), spanOf(two); a.from < b.to && b.from < a.to {
		t.Error("P2: two answers of Messages share memory")
	}
	want := slices.Clone(two)
	for i := range spareOf(one) {
		spareOf(one)[i] = api.Message{Kind: 99, From: 99, To: 99, Bytes: "99"}
	}
	p.way(want...)
	p.made(0)
	p.drop(0)
	p.spoil(0, 0, 1)
	if !slices.Equal(two, want) {
		t.Errorf("P2: an answer of Messages changed later: %v", two)
	}
	for i := range spareOf(two) {
		spareOf(two)[i] = api.Message{}
	}
	if got := must(p.Messages()); len(got) != 16 || !slices.Equal(got[1:14], want[2:]) {
		t.Errorf("P2: what is under way changed with an answer: %x", got)
	}
}
