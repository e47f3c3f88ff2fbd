package frames

import (
	"weave/api"
	"weave/batch"
	"weave/sum"
)

// Decode is the batch that s is the frame of; a fault that is ErrFrame, if it is of none.
func Decode(s string) (api.Batch, error) {
	r, err := open(s)
	if err != nil {
		return api.Batch{}, err
	}
	b := r.batch()
	if r.at < len(r.bytes) {
		r.fail(ErrRest)
	}
	if r.fault == nil {
		r.fail(batch.Check(b))
	}
	if r.fault != nil {
		return api.Batch{}, r.fault
	}
	return b, nil
}

// open asks for the length ahead of the sum, so that a string of any length is refused at once.
func open(s string) (*reader, error) {
	r := &reader{bytes: s}
	length := r.two()
	if r.fault != nil {
		return nil, r.fault
	}
	if length != len(s) {
		return nil, Fault{r.at, ErrLength}
	}
	content, ok := sum.Open(s)
	if !ok {
		return nil, Fault{r.at, ErrSum}
	}
	r.bytes = content
	return r, nil
}

// reader goes through bytes from their front. Behind its first fault it reads zeros, so that it need be asked for the fault only once, at the end.
type reader struct {
	bytes string
	at    int
	fault error
}

// fail keeps the first fault: what follows may come of it.
func (r *reader) fail(why error) {
	if r.fault == nil && why != nil {
		r.fault = Fault{r.at, why}
	}
}

func (r *reader) one() int {
	if r.at >= len(r.bytes) {
		r.fail(ErrCut)
	}
	if r.fault != nil {
		return 0
	}
	r.at++
	return int(r.bytes[r.at-1])
}

func (r *reader) two() int {
	high := r.one()
	return high<<8 | r.one()
}

func (r *reader) batch() api.Batch {
	b := api.Batch{Origin: r.one(), Seq: r.one(), Time: r.one()}
	for range r.one() {
		b.Clock = append(b.Clock, r.one())
	}
	for range r.one() {
		b.Effects = append(b.Effects, r.effect())
	}
	return b
}

func (r *reader) effect() api.Effect {
	e := api.Effect{Op: r.one(), Object: r.one(), Value: int(int16(r.two()))}
	// Without a rule nobody knows where the effect ends.
	rule, err := batch.RuleOf(e.Op)
	r.fail(err)
	if rule.HasRef() {
		e.Ref = r.dot()
	}
	if rule.HasDots() {
		for range r.one() {
			e.Dots = append(e.Dots, r.dot())
		}
	}
	return e
}

func (r *reader) dot() api.Dot {
	return api.Dot{Origin: r.one(), Seq: r.one(), Index: r.one()}
}
