package replica

import (
	"weave/api"
	"weave/batch"
	"weave/objects"
)

// Begin opens a transaction.
func (r *Replica) Begin() api.Errno {
	switch {
	case r.state == busy:
		return api.ErrBusy
	case r.clock[r.number] == api.MaxSeq:
		return api.ErrQuota
	}
	r.state = busy
	return api.OK
}

// Abort ends the transaction as if it had not been.
func (r *Replica) Abort() api.Errno {
	if r.state != busy {
		return api.ErrIdle
	}
	r.end()
	return api.OK
}

func (r *Replica) end() {
	r.state = idle
	r.effects = nil
}

// Do adds an operation's effect to the transaction.
func (r *Replica) Do(op, object, a, b int) api.Errno {
	if r.state != busy {
		return api.ErrIdle
	}
	seen, errno := r.see(object)
	if errno != api.OK {
		return errno
	}
	rule, err := batch.RuleOf(op)
	if err != nil || rule.Kind != batch.KindOf(object) {
		return api.ErrKind
	}
	e, errno := seen.Effect(batch.Op(op), a, b)
	if errno != api.OK {
		return errno
	}
	e.Op, e.Object = op, object
	return r.add(e, rule)
}

func (r *Replica) add(e api.Effect, rule batch.Rule) api.Errno {
	switch {
	case len(e.Dots) < rule.LeastDots: // a Remove of what is not there
		return api.OK
	case len(e.Dots) > rule.MostDots || len(r.effects) == api.MaxEffects:
		return api.ErrBig
	}
	r.effects = append(r.effects, e)
	return api.OK
}

// Read is what an object comes to.
func (r *Replica) Read(object int) ([]int, api.Errno) {
	seen, errno := r.see(object)
	if errno != api.OK {
		return nil, errno
	}
	return seen.Values(), api.OK
}

// see is an object with the open transaction's effects. They go into a copy, made anew each time: so nothing need be undone, and they have the Time that their batch would have now.
func (r *Replica) see(object int) (objects.Object, api.Errno) {
	kept, found := r.objects[object]
	if !found {
		return nil, api.ErrObject
	}
	seen := kept.Copy()
	b := r.pending()
	for i, e := range b.Effects {
		if e.Object == object {
			seen.Take(objects.StampOf(b, i), e)
		}
	}
	return seen, api.OK
}

// pending is the batch that the transaction would be if it were made now.
func (r *Replica) pending() api.Batch {
	return api.Batch{
		Origin:  r.number,
		Seq:     r.clock[r.number] + 1,
		Time:    r.time + 1,
		Clock:   r.Clock(),
		Effects: r.effects,
	}
}

// Commit ends the transaction with its effects; it answers the Seq of its batch, and the frame that the others are to have. Without effects there is neither.
func (r *Replica) Commit() (int, string, api.Errno) {
	if r.state != busy {
		return 0, "", api.ErrIdle
	}
	b := r.pending()
	r.end()
	if len(b.Effects) == 0 {
		return 0, "", api.OK
	}
	frame := frameOf(b)
	r.deliver(b, frame)
	r.log.sync()
	return b.Seq, frame, api.OK
}
