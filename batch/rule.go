package batch

import "weave/api"

// RefUse is what an operation does with a Ref.
type RefUse int

const (
	NoRef RefUse = iota
	MayRef
	MustRef
)

// Rule is what the effects of one operation have in common.
type Rule struct {
	Kind                Kind // of the objects that it is for
	Least, Greatest     int  // of its Value
	Ref                 RefUse
	LeastDots, MostDots int
}

var rules = [...]Rule{
	Add:    {Kind: Counter, Least: -api.MaxAdd, Greatest: api.MaxAdd},
	Insert: {Kind: Set, Greatest: api.MaxValue},
	Remove: {Kind: Set, LeastDots: 1, MostDots: api.MaxDots},
	Write:  {Kind: Register, Greatest: api.MaxValue, MostDots: api.MaxDots},
	Put:    {Kind: List, Greatest: api.MaxValue, Ref: MayRef},
	Erase:  {Kind: List, Ref: MustRef},
}

// RuleOf is the rule of an operation; a fault, if op is none.
func RuleOf(op int) (Rule, error) {
	if !within(op, int(Add), int(Erase)) {
		return Rule{}, Fault{"Op", ErrBatch}
	}
	return rules[op], nil
}

// HasRef tells whether a frame has room for a Ref there.
func (r Rule) HasRef() bool { return r.Ref != NoRef }

// HasDots tells whether a frame has room for Dots there.
func (r Rule) HasDots() bool { return r.MostDots > 0 }

func within(n, least, greatest int) bool { return least <= n && n <= greatest }
