package replica

// log is the frames of the batches that are delivered, one behind the other.
type log struct {
	bytes  string
	synced int // how many of the bytes outlast a crash
}

func (l *log) add(frame string) { l.bytes += frame }

func (l *log) sync() { l.synced = len(l.bytes) }
