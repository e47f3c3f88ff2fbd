package batch

// Kind is what an object is. It counts as api does, as a type of its own: a kind is never taken for an object or an operation.
type Kind int

const (
	Counter Kind = iota
	Set
	Register
	List
	kinds // how many there are
)

// KindOf is the kind of the object of that number.
func KindOf(object int) Kind { return Kind(object % int(kinds)) }

// Op is an operation. It counts as api does, from 1 on.
type Op int

const (
	_ Op = iota
	Add
	Insert
	Remove
	Write
	Put
	Erase
)
