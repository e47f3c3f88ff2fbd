package frames

import (
	"errors"
	"strconv"
)

// ErrFrame is what every fault of Decode is, whatever lies under it.
var ErrFrame = errors.New("no frame")

// What can be wrong with bytes, beside that their content is no batch.
var (
	ErrLength = errors.New("another length than the frame tells")
	ErrSum    = errors.New("the sum is not right")
	ErrCut    = errors.New("the content ends too early")
	ErrRest   = errors.New("bytes behind the content")
)

// Fault is an error with how many bytes had been read when it was met.
type Fault struct {
	At  int
	Why error
}

func (f Fault) Error() string {
	return ErrFrame.Error() + ": byte " + strconv.Itoa(f.At) + ": " + f.Why.Error()
}

func (f Fault) Unwrap() error { return f.Why }

// Is makes a fault an ErrFrame too, so that who only asks whether the bytes are a frame need not know the reasons.
func (f Fault) Is(target error) bool { return target == ErrFrame }
