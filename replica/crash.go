package replica

import (
	"weave/api"
	"weave/heap"
)

// Sync makes all of the log outlast a crash.
func (r *Replica) Sync() { r.log.sync() }

// IsDown tells whether the replica has crashed and was not started again.
func (r *Replica) IsDown() bool { return r.state == down }

// Crash takes the replica down with so many bytes of its log that were not synced. All but the log is lost; the clock is left to be told, not to be built on.
func (r *Replica) Crash(keep int) {
	r.log.cut(keep)
	*r = Replica{
		number: r.number,
		state:  down,
		clock:  r.clock,
		log:    r.log,
		held:   heap.New(earlier),
	}
}

// Fail crashes in the midst of a commit: the batch's frame is written, but nothing has come of it yet.
func (r *Replica) Fail(keep int) api.Errno {
	if r.state != busy {
		return api.ErrIdle
	}
	if b := r.pending(); len(b.Effects) > 0 {
		r.log.add(frameOf(b))
	}
	r.Crash(keep)
	return api.OK
}

// Restart brings the replica up as one that is new, to which the log's batches are delivered again, up to the first bytes that are no frame or were not due there.
func (r *Replica) Restart() api.Errno {
	if r.state != down {
		return api.ErrUp
	}
	left := r.log
	*r = *New(r.number, len(r.clock))
	for b, frame := range left.batches() {
		if !r.isDue(b) {
			break
		}
		r.deliver(b, frame)
	}
	r.log.sync()
	return api.OK
}
