package replica

import (
	"cmp"

	"weave/api"
	"weave/frames"
)

// TakeFrame takes in what came as a frame.
func (r *Replica) TakeFrame(bytes string) {
	b, err := frames.Decode(bytes)
	if err != nil || !r.fits(b) || b.Seq <= r.clock[b.Origin] {
		return
	}
	if !r.isDue(b) {
		r.hold(b)
		return
	}
	r.deliver(b, bytes)
	r.deliverHeld()
}

// fits tells whether b was made among as many replicas as there are here.
func (r *Replica) fits(b api.Batch) bool { return len(b.Clock) == len(r.clock) }

// isDue tells whether all that b builds on is delivered here, and it is the next of its Origin.
func (r *Replica) isDue(b api.Batch) bool {
	if !r.fits(b) {
		return false
	}
	for i, n := range b.Clock {
		if n > r.clock[i] {
			return false
		}
	}
	return b.Seq == r.clock[b.Origin]+1
}

func (r *Replica) hold(b api.Batch) {
	if r.held.Len() < api.MaxHeld && !r.held.Has(like(b)) {
		r.held.Push(b)
	}
}

// deliverHeld asks anew behind each delivery: it may have made one due that is less than the others.
func (r *Replica) deliverHeld() {
	for b, found := r.held.Take(r.isDue); found; b, found = r.held.Take(r.isDue) {
		r.deliver(b, frameOf(b))
	}
}

// Held is how many batches are held back.
func (r *Replica) Held() int { return r.held.Len() }

// earlier is the order in which batches that are held back are delivered.
func earlier(a, b api.Batch) bool {
	return cmp.Or(
		cmp.Compare(a.Time, b.Time),
		cmp.Compare(a.Origin, b.Origin),
		cmp.Compare(a.Seq, b.Seq),
	) < 0
}

// like tells of a batch whether it has the name that b has.
func like(b api.Batch) func(api.Batch) bool {
	return func(other api.Batch) bool { return other.Origin == b.Origin && other.Seq == b.Seq }
}
