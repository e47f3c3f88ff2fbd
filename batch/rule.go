package batch

import "weave/api"

// RefUse is what an operation does with a Ref.
type RefUse int

const (
	NoRef RefUse = iota
	MayRef
	MustRef
)

// Rule is what the effects of one operation have in common.
type Rule struct {
	Kind                int // of the objects that it is for
	Least, Greatest     int // of its Value
	Ref                 RefUse
	LeastDots, MostDots int
}

var rules = [...]Rule{
	api.Add:    {Kind: api.Counter, Least: -api.MaxAdd, Greatest: api.MaxAdd},
	api.Insert: {Kind: api.Set, Greatest: api.MaxValue},
	api.Remove: {Kind: api.Set, LeastDots: 1, MostDots: api.MaxDots},
	api.Write:  {Kind: api.Register, Greatest: api.MaxValue, MostDots: api.MaxDots},
	api.Put:    {Kind: api.List, Greatest: api.MaxValue, Ref: MayRef},
	api.Erase:  {Kind: api.List, Ref: MustRef},
}

// RuleOf is the rule of an operation; a fault, if op is none.
func RuleOf(op int) (Rule, error) {
	if !within(op, api.Add, api.Erase) {
		return Rule{}, Fault{"Op", ErrBatch}
	}
	return rules[op], nil
}

// HasRef tells whether a frame has room for a Ref there.
func (r Rule) HasRef() bool { return r.Ref != NoRef }

// HasDots tells whether a frame has room for Dots there.
func (r Rule) HasDots() bool { return r.MostDots > 0 }

func within(n, least, greatest int) bool { return least <= n && n <= greatest }
