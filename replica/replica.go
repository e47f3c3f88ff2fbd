// Package replica has one of the replicas that keep a store: what is delivered and held back there, its log, and its transaction.
package replica

import (
	"slices"

	"weave/api"
	"weave/batch"
	"weave/frames"
	"weave/heap"
	"weave/objects"
)

type state int

const (
	idle state = iota
	busy       // a transaction is open
	down
)

// Replica is one replica of several.
type Replica struct {
	number  int
	state   state
	clock   []int
	time    int // the greatest Time of the batches delivered
	objects map[int]objects.Object
	log     log
	held    *heap.Heap[api.Batch]
	effects []api.Effect // of the open transaction
}

// New is the replica of that number among so many, without batches.
func New(number, replicas int) *Replica {
	r := &Replica{
		number:  number,
		clock:   make([]int, replicas),
		objects: map[int]objects.Object{},
		held:    heap.New(earlier),
	}
	for object := range api.Objects {
		r.objects[object] = objects.New(batch.KindOf(object))
	}
	return r
}

// Clock is how many batches of each replica are delivered, in new memory.
func (r *Replica) Clock() []int { return slices.Clone(r.clock) }

// Log is the log's bytes.
func (r *Replica) Log() string { return r.log.bytes }

// deliver takes a batch that is due, with its frame.
func (r *Replica) deliver(b api.Batch, frame string) {
	r.held.Take(like(b))
	for i, e := range b.Effects {
		r.objects[e.Object].Take(objects.StampOf(b, i), e)
	}
	r.clock[b.Origin] = b.Seq
	r.time = max(r.time, b.Time)
	r.log.add(frame)
}

// frameOf is for what is known to be a batch: what Do let in, or what was decoded.
func frameOf(b api.Batch) string {
	frame, _ := frames.Encode(b)
	return frame
}
