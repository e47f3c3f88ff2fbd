package batch

import "errors"

// ErrBatch lies under every fault of a batch.
var ErrBatch = errors.New("no batch")

// Fault is an error with the part of the batch that it was met in.
type Fault struct {
	Part string
	Why  error
}

func (f Fault) Error() string { return f.Part + ": " + f.Why.Error() }

func (f Fault) Unwrap() error { return f.Why }
