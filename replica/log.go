package replica

import (
	"iter"

	"weave/api"
	"weave/frames"
)

// log is the frames of the batches that are delivered, one behind the other.
type log struct {
	bytes  string
	synced int // how many of the bytes outlast a crash
}

func (l *log) add(frame string) { l.bytes += frame }

func (l *log) sync() { l.synced = len(l.bytes) }

// cut is what a crash does: of the bytes that were not synced so many are left, and all that is left is synced.
func (l *log) cut(keep int) {
	rest := len(l.bytes) - l.synced
	l.bytes = l.bytes[:l.synced+min(max(keep, 0), rest)]
	l.sync()
}

// batches goes through the log, in order, each batch with its frame.
func (l *log) batches() iter.Seq2[api.Batch, string] { return frames.All(l.bytes) }
