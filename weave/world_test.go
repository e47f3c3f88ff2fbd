package weave_test

import (
	"math/rand"
	"slices"
	"testing"

	"weave/api"
)

// world is a store as the document's words have it.
type world struct {
	replicas []*model
	way      []parcel
}

// parcel is a message with what it says, so that nothing need be read out of bytes.
type parcel struct {
	api.Message
	batch  api.Batch // of a frame
	clock  []int     // of a digest
	spoilt bool
}

func newWorld(n int) *world {
	w := &world{}
	for r := range n {
		w.replicas = append(w.replicas, &model{number: r, replicas: n})
	}
	return w
}

func (w *world) has(r int) bool { return r >= 0 && r < len(w.replicas) }

func (w *world) send(x parcel) {
	if len(w.way) < 40 {
		w.way = append(w.way, x)
	}
}

func (w *world) sendFrame(from, to int, b api.Batch) {
	w.send(parcel{Message: frameTo(from, to, b), batch: b})
}

func (w *world) commit(r int) (int, api.Errno) {
	b, errno := w.replicas[r].commit()
	for to := range w.replicas {
		if b.Seq > 0 && to != r {
			w.sendFrame(r, to, b)
		}
	}
	return b.Seq, errno
}

func (w *world) ask(r, to int) api.Errno {
	switch {
	case !w.has(r):
		return api.ErrReplica
	case w.replicas[r].down:
		return api.ErrDown
	case !w.has(to) || r == to:
		return api.ErrReplica
	}
	clock := w.replicas[r].clock()
	w.send(parcel{Message: digestTo(r, to, clock...), clock: clock})
	return api.OK
}

func (w *world) drop(i int) api.Errno {
	if i < 0 || i >= len(w.way) {
		return api.ErrMessage
	}
	w.way = slices.Delete(w.way, i, i+1)
	return api.OK
}

func (w *world) twice(i int) api.Errno {
	if i < 0 || i >= len(w.way) {
		return api.ErrMessage
	}
	w.send(w.way[i])
	return api.OK
}

func (w *world) deliver(i int) api.Errno {
	if i < 0 || i >= len(w.way) {
		return api.ErrMessage
	}
	x := w.way[i]
	w.drop(i)
	to := w.replicas[x.To]
	switch {
	case x.spoilt || to.down:
	case x.Kind == api.Frame:
		to.takeFrame(x.batch)
	default:
		for _, b := range to.answer(x.clock) {
			w.sendFrame(x.To, x.From, b)
		}
	}
	return api.OK
}

func (w *world) spoil(i, at, mask int) api.Errno {
	switch {
	case i < 0 || i >= len(w.way) || w.way[i].spoilt:
		return api.ErrMessage
	case mask < 1 || mask > 255:
		return api.ErrValue
	case at < 0 || at >= len(w.way[i].Bytes):
		return api.ErrPlace
	}
	bytes := []byte(w.way[i].Bytes)
	bytes[at] ^= byte(mask)
	w.way[i].Bytes, w.way[i].spoilt = string(bytes), true
	return api.OK
}

func (w *world) messages() []api.Message {
	var list []api.Message
	for _, x := range w.way {
		list = append(list, x.Message)
	}
	return list
}

// transact does one call of a transaction at the store and in the world.
func (p play) transact(dice *rand.Rand, w *world, r int) {
	p.Helper()
	m := w.replicas[r]
	switch dice.Intn(12) {
	case 0, 1, 2:
		p.is("P6: Begin", p.Begin(r), m.begin())
	case 3:
		if dice.Intn(3) == 0 {
			p.is("P6: Abort", p.Abort(r), m.abort())
		}
	case 4, 5:
		seq, e := p.Commit(r)
		if want, errno := w.commit(r); seq != want || e != errno {
			p.Errorf("P9: Commit(%d) = %d, %d, want %d, %d", r, seq, e, want, errno)
		}
	default:
		object := number(dice, 7)
		op, a, b := operation(dice, object), number(dice, 4), number(dice, 4)
		if got, want := p.Do(r, op, object, a, b), m.do(op, object, a, b); got != want {
			p.Errorf("P7: Do(%d, %d, %d, %d, %d) = %d, want %d", r, op, object, a, b, got, want)
		}
	}
}

// spread does one call of a message at the store and in the world.
func (p play) spread(dice *rand.Rand, w *world) {
	p.Helper()
	i := number(dice, len(w.way))
	switch dice.Intn(12) {
	case 0:
		p.is("P11: Drop", p.Drop(i), w.drop(i))
	case 1:
		p.is("P11: Twice", p.Twice(i), w.twice(i))
	case 2:
		at, mask := number(dice, 24), number(dice, 255)
		p.is("P11: Spoil", p.Spoil(i, at, mask), w.spoil(i, at, mask))
	case 3, 4:
		r, to := number(dice, len(w.replicas)), number(dice, len(w.replicas))
		p.is("P13: Ask", p.Ask(r, to), w.ask(r, to))
	default:
		p.is("P11: Deliver", p.Deliver(i), w.deliver(i))
	}
	p.way(w.messages()...)
}

// upset does one call of a crash at the store and in the world.
func (p play) upset(dice *rand.Rand, w *world, r int) {
	p.Helper()
	m := w.replicas[r]
	keep := number(dice, 80)
	switch dice.Intn(8) {
	case 0:
		p.is("P14: Sync", p.Sync(r), m.sync())
	case 1:
		p.is("P14: Crash", p.Crash(r, keep), m.crash(keep))
	case 2, 3:
		p.is("P14: Fail", p.Fail(r, keep), m.fail(keep))
	default:
		p.is("P15: Restart", p.Restart(r), m.restart())
	}
}

// batches is how many there are, at any replica.
func (w *world) batches() int {
	n := 0
	for r := range w.replicas {
		most := 0
		for _, m := range w.replicas {
			most = max(most, m.clock()[r])
		}
		n += most
	}
	return n
}

// settle: all are up and nothing is under way; then each asks each other, and all that is sent is delivered, as often as there are batches.
func (p play) settle(dice *rand.Rand, w *world) {
	p.Helper()
	for r, m := range w.replicas {
		p.is("P15: Restart", p.Restart(r), m.restart())
	}
	for len(w.way) > 0 {
		p.is("P11: Drop", p.Drop(0), w.drop(0))
	}
	for range w.batches() {
		for r := range w.replicas {
			for to := range w.replicas {
				if r != to {
					p.is("P13: Ask", p.Ask(r, to), w.ask(r, to))
				}
			}
		}
		for len(w.way) > 0 {
			i := dice.Intn(len(w.way))
			p.is("P11: Deliver", p.Deliver(i), w.deliver(i))
		}
	}
}

// together: all replicas have the same.
func (p play) together(w *world) {
	p.Helper()
	for _, m := range w.replicas {
		if m.open {
			p.abort(m.number)
			m.abort()
		}
		p.agree(m)
		for object := range api.Objects {
			p.read(m.number, object, must(p.Read(0, object))...)
		}
		p.clock(m.number, must(p.Clock(0))...)
		p.held(m.number, 0)
	}
}

func TestByChance(t *testing.T) {
	for seed := range int64(36) {
		dice := rand.New(rand.NewSource(seed))
		n := 2 + int(seed)%3
		p, w := newPlay(t, n), newWorld(n)
		for i := range 900 {
			// Now messages heap up, now they are taken in faster than they are sent; and crashes are there never, seldom or often.
			switch {
			case dice.Intn(20) < int(seed)/3%3*2:
				p.upset(dice, w, dice.Intn(n))
			case dice.Intn(10) < 1+7*(i/300%2):
				p.spread(dice, w)
			default:
				p.transact(dice, w, dice.Intn(n))
			}
			p.agree(w.replicas[dice.Intn(n)])
			if t.Failed() {
				t.Fatalf("seed %d, step %d", seed, i)
			}
		}
		p.settle(dice, w)
		p.together(w)
		if t.Failed() {
			t.Fatalf("seed %d, at the end", seed)
		}
	}
}
