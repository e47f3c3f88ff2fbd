package replica

import (
	"math"
	"slices"
	"strings"
	"testing"

	"weave/api"
)

// fallen is a replica that is down with that log, which need not be one that it can have written.
func fallen(number, replicas int, frames ...string) *Replica {
	r := New(number, replicas)
	r.Crash(0)
	r.log.add(strings.Join(frames, ""))
	r.log.sync()
	return r
}

// The log is truncated to its longest beginning of frames that were due, whatever stands behind.
func TestRestartTruncates(t *testing.T) {
	a1, a2, a3 := add(t, 0, 1, 1, 0, 0, 0), add(t, 0, 2, 2, 1, 0, 0), add(t, 0, 3, 3, 2, 0, 0)
	b1 := add(t, 1, 1, 9, 1, 0, 0)
	c1 := add(t, 2, 1, 1, 0, 0, 0)
	for _, c := range []struct {
		what  string
		log   []string
		whole int
		clock []int
	}{
		{"nothing", nil, 0, []int{0, 0, 0}},
		{"all due", []string{c1, a1, b1, a2}, 4, []int{2, 1, 1}},
		{"the first not due", []string{a2}, 0, []int{0, 0, 0}},
		{"the first not due, due ones behind", []string{a2, a1, a2}, 0, []int{0, 0, 0}},
		{"the last not the next of its Origin", []string{a1, a3}, 1, []int{1, 0, 0}},
		{"the last ahead of what it builds on", []string{c1, b1}, 1, []int{0, 0, 1}},
		{"what it builds on behind it", []string{c1, b1, a1}, 1, []int{0, 0, 1}},
		{"one twice", []string{c1, a1, a1, a2}, 2, []int{1, 0, 1}},
		{"an early one in the midst", []string{a1, c1, a3, a2}, 2, []int{1, 0, 1}},
		{"a Clock of two", []string{a1, add(t, 1, 1, 1, 0, 0), a2}, 1, []int{1, 0, 0}},
		{"a Clock of four", []string{a1, add(t, 1, 1, 1, 0, 0, 0, 0), a2}, 1, []int{1, 0, 0}},
		{"a Clock of four, of an Origin that is not there", []string{a1, add(t, 3, 1, 1, 0, 0, 0, 0)}, 1, []int{1, 0, 0}},
		{"a frame cut", []string{a1, c1, a2[:len(a2)-1]}, 2, []int{1, 0, 1}},
		{"a frame cut in its length", []string{a1, c1, a2[:1]}, 2, []int{1, 0, 1}},
		{"a frame cut, others behind", []string{a1, a2[:len(a2)-1], c1}, 1, []int{1, 0, 0}},
		{"a byte more", []string{a1, "\x00", c1}, 1, []int{1, 0, 0}},
		{"a spoilt frame", []string{a1, c1[:9] + "\xff" + c1[10:], b1}, 1, []int{1, 0, 0}},
		{"no frame at all", []string{"\x00\x00\x00\x00"}, 0, []int{0, 0, 0}},
	} {
		r := fallen(1, 3, c.log...)
		goesWell(t, r.Restart())
		has(t, c.what, r, 0, c.clock, c.log[:c.whole]...)
		reads(t, r, 0, c.whole)
		if r.log.synced != len(r.log.bytes) {
			t.Errorf("P15, %s: %d bytes are synced of %d", c.what, r.log.synced, len(r.log.bytes))
		}
		if e := r.Restart(); e != api.ErrUp {
			t.Errorf("P15, %s: Restart again: %d, want ErrUp", c.what, e)
		}
	}
}

// What is truncated away does not count for the Time of the next batch, what stays does, wherever it stands.
func TestTimeBehindARestart(t *testing.T) {
	late, early, gone := add(t, 0, 1, 9, 0, 0), add(t, 1, 1, 4, 0, 0), add(t, 0, 3, 30, 2, 0)
	r := fallen(1, 2, late, early, gone)
	goesWell(t, r.Restart(), r.Begin())
	if b := r.pending(); b.Seq != 2 || b.Time != 10 || !slices.Equal(b.Clock, []int{1, 1}) {
		t.Errorf("P15: the next batch is %v", b)
	}
}

// Nothing is kept of one that is down but what is still told, and what it is built anew from.
func TestKeptOfOneThatIsDown(t *testing.T) {
	r := New(0, 2)
	arrive(t, r, 1, 1, inserts(3)...)
	r.TakeFrame(add(t, 1, 3, 3, 0, 2))
	goesWell(t, r.Begin(), r.Do(api.Add, 0, 1, 0))
	r.Crash(math.MaxInt)
	if r.objects != nil || r.effects != nil || r.time != 0 || r.Held() != 0 || !r.IsDown() {
		t.Errorf("P14: of one that is down %v is kept", r)
	}
	if n := len(r.Log()); n == 0 || r.log.synced != n {
		t.Errorf("P14: %d bytes are synced of %d that are left", r.log.synced, n)
	}
	goesWell(t, r.Restart())
	reads(t, r, 1, 7)
	reads(t, r, 0, 0)
}
