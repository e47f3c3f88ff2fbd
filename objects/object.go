// Package objects has what objects come to by the effects on them: one interface, and each kind of object behind it.
package objects

import (
	"weave/api"
	"weave/batch"
)

// Stamp is what an effect has of its batch: the dot that names it, and the Time.
type Stamp struct {
	Dot  api.Dot
	Time int
}

// StampOf is the stamp of the effect number i of b.
func StampOf(b api.Batch, i int) Stamp {
	return Stamp{api.Dot{Origin: b.Origin, Seq: b.Seq, Index: i}, b.Time}
}

// Object is an object of some kind. It is handed effects of its kind alone, none of them ahead of one that it names.
type Object interface {
	// Take lets an effect happen.
	Take(at Stamp, e api.Effect)
	// Effect is what an operation would do now, with all but the names of operation and object.
	Effect(op batch.Op, a, b int) (api.Effect, api.Errno)
	// Values is what the object comes to, in new memory.
	Values() []int
	// Copy is one that goes its own way from here on.
	Copy() Object
}

// New is an object without effects.
func New(kind batch.Kind) Object {
	switch kind {
	case batch.Counter:
		return &counter{}
	case batch.Set:
		return &set{live{}}
	case batch.Register:
		return &register{live{}}
	}
	return &list{}
}

// checkValue is of the values of sets, registers and lists alike.
func checkValue(n int) api.Errno {
	if n < 0 || n > api.MaxValue {
		return api.ErrValue
	}
	return api.OK
}
