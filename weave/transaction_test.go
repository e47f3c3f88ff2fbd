package weave_test

import (
	"reflect"
	"testing"

	"weave/api"
)

func TestBeginAndEnd(t *testing.T) {
	p := newPlay(t, 2)
	idle := func(what string) {
		t.Helper()
		before := p.all()
		p.is("P6: Abort "+what, p.Abort(1), api.ErrIdle)
		if seq, e := p.Commit(1); seq != 0 || e != api.ErrIdle {
			t.Errorf("P9: Commit %s = %d, %d, want 0 and ErrIdle", what, seq, e)
		}
		p.is("P7: Do "+what, p.Do(1, api.Add, 0, 1, 0), api.ErrIdle)
		if after := p.all(); !reflect.DeepEqual(before, after) {
			t.Errorf("P1: refused calls %s changed %v to %v", what, before, after)
		}
	}
	busy := func(what string) {
		t.Helper()
		before := p.all()
		p.is("P6: Begin "+what, p.Begin(1), api.ErrBusy)
		if after := p.all(); !reflect.DeepEqual(before, after) {
			t.Errorf("P1: a refused Begin %s changed %v to %v", what, before, after)
		}
	}
	idle("at first")
	p.begin(1)
	busy("behind Begin")
	p.do(1, api.Add, 0, 3, 0)
	busy("behind Do")
	p.read(1, 0, 3)
	p.abort(1)
	idle("behind Abort")
	p.begin(1)
	p.read(1, 0, 0)
	p.do(1, api.Add, 0, 4, 0)
	p.commit(1, 1)
	idle("behind Commit")
	p.begin(1)
	busy("behind Commit and Begin")
	p.commit(1, 0)
	idle("behind an empty Commit")
	p.read(1, 0, 4)
	p.clock(1, 0, 1)
}

// What was not committed takes neither a Seq nor a Time nor a place in the log.
func TestOnlyBatchesCount(t *testing.T) {
	p := newPlay(t, 3)
	add := func(seq, value int) api.Batch {
		return api.Batch{Origin: 2, Seq: seq, Time: seq, Clock: []int{0, 0, seq - 1}, Effects: []api.Effect{{Op: api.Add, Object: 4, Value: value}}}
	}
	for i := range 3 {
		p.begin(2)
		p.commit(2, 0)
		p.begin(2)
		p.do(2, api.Insert, 1, 9, 0)
		p.abort(2)
		p.begin(2)
		p.do(2, api.Remove, 5, 9, 0)
		p.commit(2, 0)
		p.begin(2)
		p.do(2, api.Add, 4, i-1, 0)
		p.clock(2, 0, 0, i)
		p.commit(2, i+1)
		p.clock(2, 0, 0, i+1)
		p.read(2, 1)
	}
	p.log(2, add(1, -1), add(2, 0), add(3, 1))
	p.log(0)
}

func TestQuota(t *testing.T) {
	p := newPlay(t, 2)
	for i := range api.MaxSeq {
		p.begin(0)
		p.abort(0)
		p.begin(0)
		p.fill(0, 0)
		p.commit(0, i+1)
	}
	p.clock(0, 30, 0)
	before := p.all()
	for range 2 {
		p.is("P6: Begin behind the last batch", p.Begin(0), api.ErrQuota)
		p.is("P6: Abort of what did not begin", p.Abort(0), api.ErrIdle)
	}
	if after := p.all(); !reflect.DeepEqual(before, after) {
		t.Errorf("P1: a refused Begin changed %v to %v", before, after)
	}
	p.once(1, api.Add, 0, 1, 0)
	p.clock(1, 0, 1)
	last := decoded(t, must(p.Log(0)))
	if len(last) != 30 || last[29].Seq != 30 || last[29].Time != 30 || len(last[29].Effects) != 5 {
		t.Errorf("P9: the log has %d batches, the last is %v", len(last), last[len(last)-1])
	}
}

func TestOpenAtTheQuota(t *testing.T) {
	p := newPlay(t, 4)
	for range api.MaxSeq - 1 {
		p.once(3, api.Add, 0, 1, 0)
	}
	p.begin(3)
	p.is("P6: a second transaction, the last one", p.Begin(3), api.ErrBusy)
	p.commit(3, 0)
	p.once(3, api.Add, 0, 1, 0)
	p.is("P6: the 31st", p.Begin(3), api.ErrQuota)
}

// The batch in the log has the effects as the operations were done.
func TestCommittedBatches(t *testing.T) {
	p := newPlay(t, 2)
	p.begin(1)
	p.do(1, api.Insert, 5, 7, -1)
	p.do(1, api.Insert, 5, 7, 999)
	p.do(1, api.Insert, 5, 8, 0)
	p.do(1, api.Put, 7, 0, 255)
	p.do(1, api.Put, 7, 1, 0)
	p.commit(1, 1)
	p.begin(1)
	p.do(1, api.Write, 6, 255, 1<<40)
	p.do(1, api.Insert, 5, 7, 0)
	p.do(1, api.Remove, 5, 7, 1<<40)
	p.do(1, api.Erase, 7, 0, -1<<40)
	p.do(1, api.Put, 7, 1, 4)
	p.commit(1, 2)
	p.begin(1)
	p.do(1, api.Write, 6, 0, 0)
	p.do(1, api.Write, 6, 1, 0)
	p.do(1, api.Add, 0, -1000, 5)
	p.do(1, api.Put, 7, 0, 6)
	p.do(1, api.Erase, 7, 2, 0)
	p.commit(1, 3)
	p.log(1,
		api.Batch{Origin: 1, Seq: 1, Time: 1, Clock: []int{0, 0}, Effects: []api.Effect{
			{Op: api.Insert, Object: 5, Value: 7},
			{Op: api.Insert, Object: 5, Value: 7},
			{Op: api.Insert, Object: 5, Value: 8},
			{Op: api.Put, Object: 7, Value: 255},
			{Op: api.Put, Object: 7, Value: 0, Ref: dot(1, 1, 3)},
		}},
		api.Batch{Origin: 1, Seq: 2, Time: 2, Clock: []int{0, 1}, Effects: []api.Effect{
			{Op: api.Write, Object: 6, Value: 255},
			{Op: api.Insert, Object: 5, Value: 7},
			{Op: api.Remove, Object: 5, Dots: dots(1, 1, 0, 1, 1, 1, 1, 2, 1)},
			{Op: api.Erase, Object: 7, Ref: dot(1, 1, 3)},
			{Op: api.Put, Object: 7, Value: 4, Ref: dot(1, 1, 4)},
		}},
		api.Batch{Origin: 1, Seq: 3, Time: 3, Clock: []int{0, 2}, Effects: []api.Effect{
			{Op: api.Write, Object: 6, Value: 0, Dots: dots(1, 2, 0)},
			{Op: api.Write, Object: 6, Value: 1, Dots: dots(1, 3, 0)},
			{Op: api.Add, Object: 0, Value: -1000},
			{Op: api.Put, Object: 7, Value: 6},
			{Op: api.Erase, Object: 7, Ref: dot(1, 2, 4)},
		}},
	)
	p.read(1, 5, 8)
	p.read(1, 6, 1)
	p.read(1, 7, 6, 0)
}

func TestFirstExample(t *testing.T) {
	p := newPlay(t, 2)
	p.begin(0)
	p.do(0, api.Insert, 1, 7, 0)
	p.do(0, api.Put, 3, 0, 65)
	p.do(0, api.Put, 3, 1, 66)
	p.read(0, 3, 65, 66)
	p.commit(0, 1)
	p.clock(0, 1, 0)
	p.read(0, 1, 7)
	p.read(0, 3, 65, 66)
	p.log(0, api.Batch{Seq: 1, Time: 1, Clock: []int{0, 0}, Effects: []api.Effect{
		{Op: api.Insert, Object: 1, Value: 7},
		{Op: api.Put, Object: 3, Value: 65},
		{Op: api.Put, Object: 3, Value: 66, Ref: dot(0, 1, 1)},
	}})
	if held, e := p.Held(0); held != 0 || e != api.OK {
		t.Errorf("P10: Held(0) = %d, %d, want 0", held, e)
	}
}
