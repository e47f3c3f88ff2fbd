package replica

import (
	"slices"
	"testing"

	"weave/api"
	"weave/digest"
	"weave/frames"
)

// add is the frame of a batch that adds 1 to the counter 0.
func add(t *testing.T, origin, seq, time int, clock ...int) string {
	t.Helper()
	s, err := frames.Encode(api.Batch{Origin: origin, Seq: seq, Time: time, Clock: clock, Effects: []api.Effect{{Op: api.Add, Value: 1}}})
	if err != nil {
		t.Fatal(err)
	}
	return s
}

func has(t *testing.T, what string, r *Replica, held int, clock []int, log ...string) {
	t.Helper()
	var bytes string
	for _, frame := range log {
		bytes += frame
	}
	if r.Held() != held || !slices.Equal(r.Clock(), clock) || r.Log() != bytes {
		t.Errorf("P12, %s: %d are held, the clock is %v, the log is %x, want %d, %v, %x", what, r.Held(), r.Clock(), r.Log(), held, clock, bytes)
	}
}

func TestNoFrame(t *testing.T) {
	r := New(0, 3)
	good := add(t, 1, 1, 1, 0, 0, 0)
	early := add(t, 1, 2, 2, 0, 1, 0)
	for _, c := range []struct{ what, bytes string }{
		{"nothing", ""},
		{"a frame cut", good[:len(good)-1]},
		{"a frame lengthened", good + "\x00"},
		{"two frames", good + early},
		{"a spoilt frame", good[:9] + "\xff" + good[10:]},
		{"a digest", digest.Encode([]int{0, 0, 0})},
		{"a Clock of two, due", add(t, 1, 1, 1, 0, 0)},
		{"a Clock of two, early", add(t, 1, 2, 1, 0, 1)},
		{"a Clock of four, due", add(t, 1, 1, 1, 0, 0, 0, 0)},
		{"a Clock of four, early", add(t, 1, 2, 1, 0, 1, 0, 0)},
		{"a Clock of four, of an Origin that is not there", add(t, 3, 1, 1, 0, 0, 0, 0)},
	} {
		r.TakeFrame(c.bytes)
		has(t, c.what, r, 0, []int{0, 0, 0})
	}
	r.TakeFrame(good)
	has(t, "a frame", r, 0, []int{0, 1, 0}, good)
	reads(t, r, 0, 1)
}

// A batch is due only as the next of its Origin, and with no number above the clock.
func TestDue(t *testing.T) {
	for _, c := range []struct {
		what        string
		origin, seq int
		clock       []int
		due         bool
	}{
		{"all that is here", 2, 1, []int{2, 1, 0}, true},
		{"less than is here", 2, 1, []int{0, 1, 0}, true},
		{"nothing", 2, 1, []int{0, 0, 0}, true},
		{"one more of 0", 2, 1, []int{3, 1, 0}, false},
		{"one more of 1", 2, 1, []int{2, 2, 0}, false},
		{"one more of its Origin", 2, 2, []int{2, 1, 1}, false},
		{"the next of 0", 0, 3, []int{2, 1, 0}, true},
		{"the next but one of 0", 0, 4, []int{3, 1, 0}, false},
		{"the next of 0, with more of 2", 0, 3, []int{2, 1, 1}, false},
	} {
		r := New(1, 3)
		log := []string{add(t, 0, 1, 1, 0, 0, 0), add(t, 1, 1, 1, 0, 0, 0), add(t, 0, 2, 2, 1, 1, 0)}
		for _, frame := range log {
			r.TakeFrame(frame)
		}
		x := add(t, c.origin, c.seq, 5, c.clock...)
		r.TakeFrame(x)
		clock := []int{2, 1, 0}
		if c.due {
			clock[c.origin]++
			has(t, c.what, r, 0, clock, append(log, x)...)
		} else {
			has(t, c.what, r, 1, clock, log...)
		}
	}
}

// What is delivered takes the place of one of the same name that is held back, whatever that one builds on.
func TestDeliveredIsNotHeld(t *testing.T) {
	r := New(0, 3)
	other := add(t, 2, 3, 9, 0, 0, 2)
	r.TakeFrame(other)
	r.TakeFrame(add(t, 1, 1, 5, 0, 0, 1))
	has(t, "two early ones", r, 2, []int{0, 0, 0})
	r.TakeFrame(add(t, 1, 1, 4, 0, 0, 2))
	has(t, "another of the same name", r, 2, []int{0, 0, 0})
	due := add(t, 1, 1, 1, 0, 0, 0)
	r.TakeFrame(due)
	has(t, "a due one of the same name", r, 1, []int{0, 1, 0}, due)
	one := add(t, 2, 1, 1, 0, 0, 0)
	two := add(t, 2, 2, 2, 0, 0, 1)
	r.TakeFrame(one)
	r.TakeFrame(two)
	has(t, "the rest", r, 0, []int{0, 1, 3}, due, one, two, other)
}

// Batches of one Origin with the same Time are never due at once; their order is the document's all the same.
func TestEarlier(t *testing.T) {
	inOrder := []api.Batch{
		{Time: 1, Origin: 2, Seq: 9},
		{Time: 2, Origin: 0, Seq: 3},
		{Time: 2, Origin: 0, Seq: 4},
		{Time: 2, Origin: 1, Seq: 1},
		{Time: 3, Origin: 0, Seq: 1},
	}
	for i, a := range inOrder {
		for k, b := range inOrder {
			if earlier(a, b) != (i < k) {
				t.Errorf("P12: %v ahead of %v: %t", a, b, i >= k)
			}
		}
	}
}

func TestNoDigest(t *testing.T) {
	r := New(1, 3)
	one := add(t, 0, 1, 1, 0, 0, 0)
	r.TakeFrame(one)
	for _, c := range []struct{ what, bytes string }{
		{"nothing", ""},
		{"a clock of two", digest.Encode([]int{0, 0})},
		{"a clock of four", digest.Encode([]int{0, 0, 0, 0})},
		{"a byte less", r.Digest()[:6]},
		{"a byte more", r.Digest() + "\x00"},
		{"a wrong sum", "\x00\x00\x00\x00\x00\x00\x00"},
		{"a frame", one},
	} {
		if answer := r.Answer(c.bytes); len(answer) != 0 {
			t.Errorf("P13, %s: it is answered with %x", c.what, answer)
		}
	}
	if answer := r.Answer(digest.Encode([]int{0, 0, 0})); !slices.Equal(answer, []string{one}) {
		t.Errorf("P13: a digest is answered with %x", answer)
	}
	if answer := r.Answer(digest.Encode([]int{255, 255, 255})); len(answer) != 0 {
		t.Errorf("P13: one that has more is answered with %x", answer)
	}
}
