package weave_test

import (
	"slices"
	"testing"

	"weave/api"
	"weave/weave"
)

// play is a store with calls that must go well.
type play struct {
	*testing.T
	*weave.Store
}

func newPlay(t *testing.T, n int) play {
	t.Helper()
	s, e := weave.New(n)
	if s == nil || e != api.OK {
		t.Fatalf("P5: New(%d) = %v, %d", n, s, e)
	}
	return play{t, s}
}

func (p play) is(what string, got, want api.Errno) {
	p.Helper()
	if got != want {
		p.Errorf("%s: %d, want %d", what, got, want)
	}
}

func (p play) begin(r int) {
	p.Helper()
	p.is("P6: Begin", p.Begin(r), api.OK)
}

func (p play) abort(r int) {
	p.Helper()
	p.is("P6: Abort", p.Abort(r), api.OK)
}

func (p play) do(r, op, object, a, b int) {
	p.Helper()
	p.is("P7: Do", p.Do(r, op, object, a, b), api.OK)
}

func (p play) commit(r, want int) {
	p.Helper()
	if seq, e := p.Commit(r); seq != want || e != api.OK {
		p.Errorf("P9: Commit(%d) = %d, %d, want %d", r, seq, e, want)
	}
}

func (p play) read(r, object int, want ...int) {
	p.Helper()
	if l, e := p.Read(r, object); !slices.Equal(l, want) || e != api.OK {
		p.Errorf("P8: Read(%d, %d) = %v, %d, want %v", r, object, l, e, want)
	}
}

func (p play) clock(r int, want ...int) {
	p.Helper()
	if l, e := p.Clock(r); !slices.Equal(l, want) || e != api.OK {
		p.Errorf("P10: Clock(%d) = %v, %d, want %v", r, l, e, want)
	}
}

// log: the log of r is the frames of these batches.
func (p play) log(r int, want ...api.Batch) {
	p.Helper()
	p.logBytes(r, bytesOf(want))
}

func (p play) logBytes(r int, want string) {
	p.Helper()
	if l, e := p.Log(r); l != want || e != api.OK {
		p.Errorf("P10: Log(%d) = %x, %d, want %x", r, l, e, want)
	}
}

// bytesOf is the frames of batches, one behind the other.
func bytesOf(batches []api.Batch) string {
	var bytes string
	for _, b := range batches {
		s, _ := frameOf(b)
		bytes += s
	}
	return bytes
}

func (p play) held(r, want int) {
	p.Helper()
	if n, e := p.Held(r); n != want || e != api.OK {
		p.Errorf("P10: Held(%d) = %d, %d, want %d", r, n, e, want)
	}
}

// way: what is under way.
func (p play) way(want ...api.Message) {
	p.Helper()
	if l, e := p.Messages(); !slices.Equal(l, want) || e != api.OK {
		p.Errorf("P11: Messages() = %x, %d, want %x", l, e, want)
	}
}

// deliver lets messages arrive, one behind the other; each number is of the list as it is then.
func (p play) deliver(list ...int) {
	p.Helper()
	for _, i := range list {
		p.is("P11: Deliver", p.Deliver(i), api.OK)
	}
}

func (p play) drop(i int) {
	p.Helper()
	p.is("P11: Drop", p.Drop(i), api.OK)
}

func (p play) dropAll() {
	p.Helper()
	for range must(p.Messages()) {
		p.drop(0)
	}
}

func (p play) twice(i int) {
	p.Helper()
	p.is("P11: Twice", p.Twice(i), api.OK)
}

func (p play) spoil(i, at, mask int) {
	p.Helper()
	p.is("P11: Spoil", p.Spoil(i, at, mask), api.OK)
}

func (p play) ask(r, to int) {
	p.Helper()
	p.is("P13: Ask", p.Ask(r, to), api.OK)
}

func (p play) sync(r int) {
	p.Helper()
	p.is("P14: Sync", p.Sync(r), api.OK)
}

func (p play) crash(r, keep int) {
	p.Helper()
	p.is("P14: Crash", p.Crash(r, keep), api.OK)
}

func (p play) fail(r, keep int) {
	p.Helper()
	p.is("P14: Fail", p.Fail(r, keep), api.OK)
}

func (p play) restart(r int) {
	p.Helper()
	p.is("P15: Restart", p.Restart(r), api.OK)
}

// last is the batch that r has delivered last, which is its own behind a Commit.
func (p play) last(r int) api.Batch {
	p.Helper()
	log := decoded(p.T, must(p.Log(r)))
	return log[len(log)-1]
}

// made commits an Add of 1 to the counter 0 at r, and is the batch.
func (p play) made(r int) api.Batch {
	p.Helper()
	p.once(r, api.Add, 0, 1, 0)
	return p.last(r)
}

// frameTo and digestTo are messages as they are sent.
func frameTo(from, to int, b api.Batch) api.Message {
	s, _ := frameOf(b)
	return api.Message{Kind: api.Frame, From: from, To: to, Bytes: s}
}

func digestTo(from, to int, clock ...int) api.Message {
	var numbers []byte
	for _, n := range clock {
		numbers = append(numbers, byte(n))
	}
	return api.Message{Kind: api.Digest, From: from, To: to, Bytes: sealed(string(numbers))}
}

// once does one operation in a transaction of its own.
func (p play) once(r, op, object, a, b int) {
	p.Helper()
	p.begin(r)
	p.do(r, op, object, a, b)
	if seq, e := p.Commit(r); seq < 1 || e != api.OK {
		p.Errorf("P9: Commit(%d) = %d, %d", r, seq, e)
	}
}

// fill makes the open transaction as big as it may be, by Adds of nothing to the counter 4.
func (p play) fill(r, have int) {
	p.Helper()
	for range api.MaxEffects - have {
		p.do(r, api.Add, 4, 0, 0)
	}
}

// all is everything that can be seen of a store.
type all struct {
	clocks [][]int
	logs   []string
	held   []int
	reads  []api.Errno // which tell what is down, too
	values [][]int
	way    []api.Message
}

func (p play) all() all {
	var x all
	x.way, _ = p.Messages()
	for r := range api.MaxReplicas {
		clock, _ := p.Clock(r)
		log, _ := p.Log(r)
		held, _ := p.Held(r)
		x.clocks, x.logs, x.held = append(x.clocks, clock), append(x.logs, log), append(x.held, held)
		for object := range api.Objects {
			values, e := p.Read(r, object)
			x.values, x.reads = append(x.values, append([]int{}, values...)), append(x.reads, e)
		}
	}
	return x
}
