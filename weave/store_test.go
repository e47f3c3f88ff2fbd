package weave_test

import (
	"math"
	"reflect"
	"slices"
	"testing"
	"unsafe"

	"weave/api"
	"weave/weave"
)

func TestNewSizes(t *testing.T) {
	for _, n := range []int{math.MinInt, -4, -1, 0, 1, 5, 6, 255, 258, 1<<32 + 2, math.MaxInt} {
		if s, e := weave.New(n); s != nil || e != api.ErrSize {
			t.Errorf("P5: New(%d) = %v, %d, want nil and ErrSize", n, s, e)
		}
	}
	for n := 2; n <= 4; n++ {
		p := newPlay(t, n)
		for r := range n {
			p.clock(r, make([]int, n)...)
			p.log(r)
			for object := range api.Objects {
				p.read(r, object, [4][]int{{0}, {}, {}, {}}[object%4]...)
			}
			p.is("P5: a transaction ahead of Begin", p.Abort(r), api.ErrIdle)
			p.begin(r)
		}
	}
}

// call is one with its answer, and whether its other results are empty.
type call struct {
	name  string
	errno api.Errno
	empty bool
}

// calls are all calls of a replica.
func calls(s *weave.Store, r int) []call {
	clock, e1 := s.Clock(r)
	held, e2 := s.Held(r)
	log, e3 := s.Log(r)
	return append(upCalls(s, r),
		call{"Clock", e1, len(clock) == 0},
		call{"Held", e2, held == 0},
		call{"Log", e3, log == ""},
		call{"Restart", s.Restart(r), true},
	)
}

// upCalls are all calls of a replica that must be up, right ones and such with numbers that are wrong.
func upCalls(s *weave.Store, r int) []call {
	values, e1 := s.Read(r, 0)
	none, e2 := s.Read(r, -1)
	seq, e3 := s.Commit(r)
	return []call{
		{"Begin", s.Begin(r), true},
		{"Do", s.Do(r, api.Add, 0, 1, 0), true},
		{"Do of nothing", s.Do(r, 0, -1, math.MaxInt, math.MinInt), true},
		{"Read", e1, len(values) == 0},
		{"Read of nothing", e2, len(none) == 0},
		{"Abort", s.Abort(r), true},
		{"Commit", e3, seq == 0},
		{"Ask", s.Ask(r, 0), true},
		{"Ask of oneself", s.Ask(r, r), true},
		{"Ask of none", s.Ask(r, -1), true},
		{"Sync", s.Sync(r), true},
		{"Crash", s.Crash(r, 0), true},
		{"Crash that keeps all", s.Crash(r, math.MaxInt), true},
		{"Fail", s.Fail(r, 0), true},
		{"Fail that keeps nothing", s.Fail(r, math.MinInt), true},
	}
}

// messageCalls are all calls of a message, with numbers that are wrong beside.
func messageCalls(s *weave.Store, i int) []call {
	return []call{
		{"Deliver", s.Deliver(i), true},
		{"Drop", s.Drop(i), true},
		{"Twice", s.Twice(i), true},
		{"Spoil", s.Spoil(i, 0, 1), true},
		{"Spoil with no mask", s.Spoil(i, 0, 0), true},
		{"Spoil of no byte", s.Spoil(i, -1, 255), true},
	}
}

func TestNilStore(t *testing.T) {
	list, e := (*weave.Store)(nil).Messages()
	if len(list) != 0 || e != api.ErrNil {
		t.Errorf("P1: of a store that is nil: Messages() = %v, %d", list, e)
	}
	for _, r := range []int{math.MinInt, -1, 0, 1, 4, math.MaxInt} {
		for _, c := range append(calls(nil, r), messageCalls(nil, r)...) {
			if c.errno != api.ErrNil || !c.empty {
				t.Errorf("P1: of a store that is nil: %s(%d): %d, empty %t", c.name, r, c.errno, c.empty)
			}
		}
	}
}

func TestNoSuchReplica(t *testing.T) {
	for n := 2; n <= 4; n++ {
		p := newPlay(t, n)
		p.once(0, api.Add, 0, 5, 0)
		p.begin(n - 1)
		p.do(n-1, api.Add, 0, 7, 0)
		before := p.all()
		for _, r := range []int{math.MinInt, -256, -1, n, n + 1, 255, 256, 1 << 32, math.MaxInt} {
			for _, c := range calls(p.Store, r) {
				if c.errno != api.ErrReplica || !c.empty {
					t.Errorf("P1: of %d replicas: %s(%d): %d, empty %t", n, c.name, r, c.errno, c.empty)
				}
			}
		}
		if after := p.all(); !reflect.DeepEqual(before, after) {
			t.Errorf("P1: refused calls changed %v to %v", before, after)
		}
	}
}

// Replicas do not see what others have not sent them.
func TestReplicasApart(t *testing.T) {
	p := newPlay(t, 3)
	p.begin(0)
	p.begin(2)
	p.do(0, api.Add, 0, 5, 0)
	p.do(2, api.Put, 3, 0, 9)
	p.is("P6: one open, another begins twice", p.Begin(2), api.ErrBusy)
	p.is("P6: no transaction there", p.Abort(1), api.ErrIdle)
	p.commit(2, 1)
	p.read(0, 0, 5)
	p.read(0, 3)
	p.read(1, 0, 0)
	p.read(2, 0, 0)
	p.read(2, 3, 9)
	p.clock(0, 0, 0, 0)
	p.clock(1, 0, 0, 0)
	p.clock(2, 0, 0, 1)
	p.log(1)
	p.abort(0)
	p.read(0, 0, 0)
}

func TestStoresApart(t *testing.T) {
	one, two := newPlay(t, 2), newPlay(t, 2)
	one.begin(0)
	two.is("P2: another store's transaction", two.Abort(0), api.ErrIdle)
	for object, op := range []int{api.Add, api.Insert, api.Write, api.Put} {
		one.do(0, op, object, 0, 0)
	}
	one.commit(0, 1)
	one.ask(0, 1)
	one.ask(1, 0)
	one.twice(0)
	one.deliver(2, 1)
	one.spoil(0, 0, 1)
	one.crash(0, 0)
	one.begin(1)
	one.do(1, api.Add, 0, 1, 0)
	one.fail(1, 100)
	one.restart(1)
	two.is("P2: another store's crash", two.Restart(0), api.ErrUp)
	if got, want := two.all(), newPlay(t, 2).all(); !reflect.DeepEqual(got, want) {
		t.Errorf("P2: a store changed with another one: %v", got)
	}
}

// apart: two lists, their spare room too, share no memory.
func apart(t *testing.T, what string, a, b []int) {
	t.Helper()
	from := func(l []int) uintptr { return uintptr(unsafe.Pointer(unsafe.SliceData(l))) }
	to := func(l []int) uintptr { return from(l) + uintptr(cap(l))*unsafe.Sizeof(0) }
	if cap(a) > 0 && cap(b) > 0 && from(a) < to(b) && from(b) < to(a) {
		t.Errorf("P2: two answers of %s share memory", what)
	}
}

// scribble writes over a list and its spare room.
func scribble(l []int) {
	for i := range l[:cap(l)] {
		l[:cap(l)][i] = 99
	}
}

func TestAnswersAreNewMemory(t *testing.T) {
	p := newPlay(t, 3)
	for i := range 3 {
		p.begin(1)
		for object, op := range []int{api.Add, api.Insert, api.Write, api.Put} {
			p.do(1, op, object, 0, 3)
		}
		p.commit(1, i+1)
	}
	for _, open := range []bool{false, true} {
		if open {
			p.begin(1)
			p.do(1, api.Insert, 1, 7, 0)
		}
		for object := range api.Objects {
			one, two := must(p.Read(1, object)), must(p.Read(1, object))
			apart(t, "Read", one, two)
			want := slices.Clone(two)
			scribble(one)
			p.read(1, object, want...)
			if !slices.Equal(two, want) {
				t.Errorf("P2: an answer of Read changed with another: %v", two)
			}
		}
		one, two, other := must(p.Clock(1)), must(p.Clock(1)), must(p.Clock(2))
		apart(t, "Clock", one, two)
		apart(t, "Clock", one, other)
		scribble(one)
		p.clock(1, 0, 3, 0)
		p.clock(2, 0, 0, 0)
	}
	p.commit(1, 4)
	p.log(1, append(decoded(t, must(p.Log(1)))[:3:3], api.Batch{Origin: 1, Seq: 4, Time: 4, Clock: []int{0, 3, 0}, Effects: []api.Effect{{Op: api.Insert, Object: 1, Value: 7}}})...)
}

func must[T any](x T, e api.Errno) T {
	if e != api.OK {
		panic(e)
	}
	return x
}

// decoded is the batches of a log.
func decoded(t *testing.T, log string) []api.Batch {
	t.Helper()
	var list []api.Batch
	for len(log) > 0 {
		n := len(log)
		if n >= 2 {
			n = min(n, max(2, int(log[0])<<8|int(log[1])))
		}
		b, e := weave.Decode(log[:n])
		if e != api.OK {
			t.Fatalf("P10: no frame in the log: %x", log[:n])
		}
		list, log = append(list, b), log[n:]
	}
	return list
}
