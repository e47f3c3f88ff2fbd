package weave_test

import (
	"math"
	"reflect"
	"slices"
	"testing"

	"weave/api"
)

// several commits batches of all operations at r.
func (p play) several(r int) []api.Batch {
	p.Helper()
	for i, list := range [][][4]int{
		{{api.Add, 0, 5, 0}, {api.Insert, 1, 7, 0}, {api.Put, 3, 0, 65}, {api.Put, 3, 1, 66}},
		{{api.Write, 2, 8, 0}, {api.Remove, 1, 7, 0}},
		{{api.Erase, 3, 0, 0}, {api.Write, 2, 9, 0}, {api.Insert, 1, 7, 0}},
		{{api.Add, 4, -3, 0}},
	} {
		p.begin(r)
		for _, x := range list {
			p.do(r, x[0], x[1], x[2], x[3])
		}
		p.commit(r, i+1)
	}
	return decoded(p.T, must(p.Log(r)))
}

// partly is a store of two, in which several batches of 0 are delivered to 1, and so many of them are synced there.
func partly(t *testing.T, synced int) (play, []api.Batch) {
	t.Helper()
	p := newPlay(t, 2)
	batches := p.several(0)
	p.arrive(1, batches[:synced]...)
	p.sync(1)
	p.arrive(1, batches[synced:]...)
	return p, batches
}

// keeps are numbers of bytes to keep where so many are synced and so many are not: all that make a difference, and some far off.
func keeps(synced, rest int) []int {
	list := []int{math.MinInt, math.MinInt + synced, -1 << 32, -rest, -1, rest + 1000, 1 << 32, math.MaxInt - synced, math.MaxInt - synced + 1, math.MaxInt}
	for keep := range rest + 2 {
		list = append(list, keep)
	}
	return list
}

// kept is what a crash leaves of a log.
func kept(log string, synced, keep int) string {
	rest := log[synced:]
	switch {
	case keep < 0:
		return log[:synced]
	case keep > len(rest):
		return log
	}
	return log[:synced] + rest[:keep]
}

// wholeIn are the first of the batches, as many as have their frames whole in so many bytes.
func wholeIn(batches []api.Batch, bytes int) []api.Batch {
	for n := len(batches); n > 0; n-- {
		if len(bytesOf(batches[:n])) <= bytes {
			return batches[:n]
		}
	}
	return nil
}

// likeNew: at r of a store of two all reads as at one to which just these batches of 0 came.
func (p play) likeNew(r int, batches int) {
	p.Helper()
	twin := newPlay(p.T, 2)
	twin.arrive(1, twin.several(0)[:batches]...)
	for object := range api.Objects {
		p.read(r, object, must(twin.Read(1, object))...)
	}
}

// What is left of the log is told while the replica is down; the clock is what it was. Behind a restart there are the batches whose frames are whole.
func TestCrashAndRestart(t *testing.T) {
	for synced := range 5 {
		_, batches := partly(t, synced)
		log, bytes := bytesOf(batches), len(bytesOf(batches[:synced]))
		for _, keep := range keeps(bytes, len(log)-bytes) {
			p, _ := partly(t, synced)
			p.crash(1, keep)
			left := kept(log, bytes, keep)
			p.logBytes(1, left)
			p.clock(1, 4, 0)
			p.held(1, 0)
			p.restart(1)
			whole := wholeIn(batches, len(left))
			p.log(1, whole...)
			p.clock(1, len(whole), 0)
			p.held(1, 0)
			p.likeNew(1, len(whole))
			p.way()
			if next := p.made(1); next.Seq != 1 || next.Time != len(whole)+1 || !slices.Equal(next.Clock, []int{len(whole), 0}) {
				t.Errorf("P15: the batch behind the restart is %v", next)
			}
			if t.Failed() {
				t.Fatalf("%d frames are synced, %d bytes are kept", synced, keep)
			}
		}
	}
}

// What a crash has left is synced, whether a frame was cut there or not.
func TestCrashSyncs(t *testing.T) {
	_, batches := partly(t, 1)
	ends := []int{0}
	for n := 2; n <= 4; n++ {
		ends = append(ends, len(bytesOf(batches[1:n])))
	}
	for i, end := range ends {
		for _, more := range []int{0, 1, 9} {
			p, _ := partly(t, 1)
			p.crash(1, end+more)
			p.restart(1)
			p.log(1, batches[:i+1]...)
			p.crash(1, -1)
			p.log(1, batches[:i+1]...)
			p.restart(1)
			p.log(1, batches[:i+1]...)
			p.clock(1, i+1, 0)
		}
	}
}

// What comes behind a restart stands where the log was truncated, and is not synced.
func TestBehindARestart(t *testing.T) {
	p, batches := partly(t, 2)
	p.crash(1, 5)
	p.restart(1)
	p.ask(1, 0)
	p.deliver(0, 0, 0)
	p.log(1, batches...)
	p.likeNew(1, 4)
	p.crash(1, 0)
	p.log(1, batches[:2]...)
	p.restart(1)
	p.ask(1, 0)
	p.deliver(0, 0, 0)
	p.crash(1, math.MaxInt)
	p.restart(1)
	p.log(1, batches...)
	p.likeNew(1, 4)
}

// Only Sync, a batch of one's own and a crash sync the log.
func TestWhatSyncs(t *testing.T) {
	for _, c := range []struct {
		what   string
		do     func(p play)
		synced bool
	}{
		{"nothing", func(p play) {}, false},
		{"Sync", func(p play) { p.sync(1) }, true},
		{"Sync in a transaction", func(p play) { p.begin(1); p.sync(1) }, true},
		{"Sync of another", func(p play) { p.sync(0) }, false},
		{"a batch", func(p play) { p.begin(1); p.do(1, api.Add, 0, 1, 0); p.commit(1, 1) }, true},
		{"a batch of another", func(p play) { p.begin(0); p.do(0, api.Add, 0, 1, 0); p.commit(0, 5) }, false},
		{"an open transaction", func(p play) { p.begin(1); p.do(1, api.Add, 0, 1, 0); p.read(1, 4, -3) }, false},
		{"a transaction without effects", func(p play) { p.begin(1); p.commit(1, 0) }, false},
		{"Abort", func(p play) { p.begin(1); p.do(1, api.Add, 0, 1, 0); p.abort(1) }, false},
		{"a digest", func(p play) { p.ask(0, 1); p.ask(1, 0); p.deliver(0, 0) }, false},
		{"a refused Restart", func(p play) { p.is("P15: Restart", p.Restart(1), api.ErrUp) }, false},
		{"a refused Fail", func(p play) { p.is("P14: Fail", p.Fail(1, 0), api.ErrIdle) }, false},
		{"a crash of another", func(p play) { p.crash(0, 100); p.restart(0) }, false},
	} {
		p, _ := partly(t, 2)
		c.do(p)
		log := decoded(t, must(p.Log(1)))
		p.crash(1, 0)
		if got := len(decoded(t, must(p.Log(1)))); c.synced && got != len(log) || !c.synced && got != 2 {
			t.Errorf("P14: behind %s %d frames of %d outlast a crash", c.what, got, len(log))
		}
	}
}

// Sync is for what is there: what comes later needs another one.
func TestSyncChangesNothingElse(t *testing.T) {
	p := newPlay(t, 2)
	batches := p.several(0)
	p.unchanged("Sync", func() { p.sync(1) })
	p.arrive(1, batches[0])
	p.arrive(1, batches[2])
	p.begin(1)
	p.do(1, api.Add, 0, 1, 0)
	p.unchanged("Sync", func() { p.sync(1); p.sync(1) })
	p.is("P6: Begin behind Sync", p.Begin(1), api.ErrBusy)
	p.arrive(1, batches[1])
	p.crash(1, 0)
	p.log(1, batches[0])
	p.restart(1)
	p.clock(1, 1, 0)
}

func TestCrashLosesTheTransaction(t *testing.T) {
	for _, keep := range []int{-1, 0, 1000} {
		p := newPlay(t, 3)
		own := p.made(1)
		p.begin(1)
		p.do(1, api.Add, 0, 100, 0)
		p.do(1, api.Put, 3, 0, 9)
		p.crash(1, keep)
		p.log(1, own)
		p.restart(1)
		p.is("P15: Abort behind a restart", p.Abort(1), api.ErrIdle)
		if seq, e := p.Commit(1); seq != 0 || e != api.ErrIdle {
			t.Errorf("P15: Commit behind a restart = %d, %d, want ErrIdle", seq, e)
		}
		p.read(1, 0, 1)
		p.read(1, 3)
		p.begin(1)
		p.commit(1, 0)
		p.log(1, own)
	}
}

// What was held back is gone: it must come again to be delivered.
func TestCrashLosesWhatIsHeld(t *testing.T) {
	p := newPlay(t, 2)
	batches := p.several(0)
	p.twice(1)
	p.arrive(1, batches[1:]...)
	p.held(1, 3)
	p.crash(1, 1000)
	p.held(1, 0)
	p.restart(1)
	p.held(1, 0)
	p.arrive(1, batches[0])
	p.clock(1, 1, 0)
	p.arrive(1, batches[1])
	p.clock(1, 2, 0)
	p.held(1, 0)
	p.log(1, batches[:2]...)
}

// There is room for six again.
func TestHeldBehindARestart(t *testing.T) {
	p := newPlay(t, 2)
	var batches []api.Batch
	for range 8 {
		batches = append(batches, p.made(0))
	}
	for range 2 {
		for _, b := range batches[1:] {
			p.twice(p.find(frameTo(0, 1, b)))
			p.arrive(1, b)
		}
		p.held(1, 6)
		p.crash(1, 0)
		p.restart(1)
	}
	p.arrive(1, batches...)
	p.clock(1, 8, 0)
	p.held(1, 0)
}

func TestCrashOfNothing(t *testing.T) {
	for _, keep := range []int{math.MinInt, -1, 0, 1, math.MaxInt} {
		p := newPlay(t, 2)
		before := p.all()
		p.crash(0, keep)
		p.logBytes(0, "")
		p.clock(0, 0, 0)
		p.restart(0)
		if after := p.all(); !reflect.DeepEqual(before, after) {
			t.Errorf("P15: a crash and a restart of one that has nothing made %v of %v", after, before)
		}
		p.begin(0)
	}
}

// What others have and what is under way does not change by a crash and a restart.
func TestCrashOfOneAlone(t *testing.T) {
	p := newPlay(t, 3)
	p.several(0)
	p.made(1)
	p.ask(1, 2)
	p.begin(2)
	p.do(2, api.Add, 0, 4, 0)
	before := p.all()
	p.crash(1, 0)
	p.restart(1)
	if after := p.all(); !reflect.DeepEqual(before, after) {
		t.Errorf("P14: the crash of one that had synced all made %v of %v", after, before)
	}
	p.crash(1, 0)
	p.commit(2, 1)
	way := must(p.Messages())
	if got := way[len(before.way):]; !slices.Equal(got, []api.Message{frameTo(2, 0, p.last(2)), frameTo(2, 1, p.last(2))}) {
		t.Errorf("P9: with one that is down, Commit sends %x", got)
	}
	for len(must(p.Messages())) > 0 {
		p.deliver(0)
	}
	p.clock(0, 4, 1, 1)
	p.clock(2, 4, 1, 1)
	p.clock(1, 0, 1, 0)
}

func TestDownErrors(t *testing.T) {
	for n := 2; n <= 4; n++ {
		for _, r := range []int{0, n - 1} {
			p := newPlay(t, n)
			p.several(0)
			for range must(p.Messages()) {
				p.deliver(0)
			}
			p.begin(r)
			p.do(r, api.Add, 0, 1, 0)
			p.crash(r, 3)
			p.unchanged("calls of one that is down", func() {
				for _, c := range upCalls(p.Store, r) {
					if c.errno != api.ErrDown || !c.empty {
						t.Errorf("P1: of one that is down: %s(%d): %d, empty %t", c.name, r, c.errno, c.empty)
					}
				}
			})
			p.restart(r)
			p.unchanged("Restart of one that is up", func() {
				p.is("P15: Restart of one that is up", p.Restart(r), api.ErrUp)
			})
			p.is("P15: no transaction is open", p.Abort(r), api.ErrIdle)
		}
	}
}

// A replica that is not there is neither up nor down.
func TestNoSuchReplicaAmongDown(t *testing.T) {
	p := newPlay(t, 2)
	p.crash(0, 0)
	p.crash(1, 0)
	p.unchanged("calls of none", func() {
		for _, r := range []int{math.MinInt, -1, 2, 1 << 32, math.MaxInt} {
			for _, c := range calls(p.Store, r) {
				if c.errno != api.ErrReplica || !c.empty {
					t.Errorf("P1: %s(%d): %d, empty %t", c.name, r, c.errno, c.empty)
				}
			}
		}
	})
}

func TestRestartOfOneThatIsUp(t *testing.T) {
	p := newPlay(t, 2)
	batches := p.several(0)
	p.arrive(1, batches[0], batches[2])
	p.begin(1)
	p.do(1, api.Insert, 1, 3, 0)
	p.unchanged("Restart of one that is up", func() {
		p.is("P15: Restart of one that is up", p.Restart(1), api.ErrUp)
	})
	p.held(1, 1)
	p.read(1, 1, 3, 7)
	p.commit(1, 1)
}

// A message for one that is down is taken out, and gives its place back; nothing else happens.
func TestDeliverToOneThatIsDown(t *testing.T) {
	p, batches := partly(t, 1)
	late := p.made(0)
	early := p.made(0)
	p.twice(0)
	p.ask(0, 1)
	p.crash(1, 20)
	before := p.all()
	p.deliver(3)
	p.way(frameTo(0, 1, late), frameTo(0, 1, early), frameTo(0, 1, late))
	p.deliver(1, 0)
	p.way(frameTo(0, 1, late))
	before.way = before.way[:1]
	if after := p.all(); !reflect.DeepEqual(before, after) {
		t.Errorf("P11: messages for one that is down made %v of %v", after, before)
	}
	p.restart(1)
	p.log(1, batches[0])
	p.deliver(0)
	p.held(1, 1)
	p.crash(1, 0)
	for range 2 {
		for range 40 {
			p.ask(0, 1)
		}
		for range 40 {
			p.deliver(0)
		}
	}
	p.way()
}

// One that is down can be asked; what it sent ahead of that arrives, and spoilt and doubled messages are as ever.
func TestMessagesOfOneThatIsDown(t *testing.T) {
	p := newPlay(t, 2)
	one := p.made(1)
	p.ask(1, 0)
	p.crash(1, 0)
	p.ask(0, 1)
	p.way(frameTo(1, 0, one), digestTo(1, 0, 0, 1), digestTo(0, 1, 0, 0))
	p.twice(2)
	p.spoil(3, 0, 1)
	p.deliver(3, 2)
	two := p.made(0)
	p.drop(2)
	p.deliver(1, 0)
	p.clock(0, 1, 1)
	p.way(frameTo(0, 1, two))
	p.deliver(0)
	p.clock(1, 0, 1)
	p.restart(1)
	p.clock(1, 0, 1)
	p.ask(1, 0)
	p.deliver(0, 0)
	p.clock(1, 1, 1)
}

// The clock of one that is down is new memory, too.
func TestClockOfOneThatIsDown(t *testing.T) {
	p, _ := partly(t, 4)
	p.crash(1, 0)
	one, two := must(p.Clock(1)), must(p.Clock(1))
	apart(t, "Clock", one, two)
	scribble(one)
	p.clock(1, 4, 0)
	p.restart(1)
	scribble(two)
	p.clock(1, 4, 0)
}

func TestThirdExample(t *testing.T) {
	p := newPlay(t, 2)
	p.once(0, api.Insert, 1, 7, 0)
	p.once(1, api.Put, 3, 0, 67)
	p.deliver(0, 0)
	p.begin(0)
	p.do(0, api.Remove, 1, 7, 0)
	p.once(1, api.Insert, 1, 7, 0)
	p.commit(0, 2)
	p.deliver(0, 0)
	p.clock(1, 2, 2)
	p.crash(1, 0)
	p.clock(1, 2, 2)
	p.restart(1)
	p.clock(1, 1, 2)
	p.ask(1, 0)
	p.deliver(0, 0)
	p.clock(1, 2, 2)
	for r := range 2 {
		p.read(r, 1, 7)
		p.read(r, 3, 67)
	}
}
