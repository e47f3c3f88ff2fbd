package replica

import (
	"slices"
	"testing"

	"weave/api"
	"weave/frames"
)

// arrive delivers the next batch of another replica, made without knowing of any other.
func arrive(t *testing.T, r *Replica, origin, time int, effects ...api.Effect) {
	t.Helper()
	b := api.Batch{Origin: origin, Seq: r.clock[origin] + 1, Time: time, Clock: make([]int, len(r.clock)), Effects: effects}
	b.Clock[origin] = b.Seq - 1
	frame, err := frames.Encode(b)
	if err != nil {
		t.Fatal(err)
	}
	r.deliver(b, frame)
}

func reads(t *testing.T, r *Replica, object int, want ...int) {
	t.Helper()
	if l, e := r.Read(object); !slices.Equal(l, want) || e != api.OK {
		t.Errorf("P8: Read(%d) = %v, %d, want %v", object, l, e, want)
	}
}

// commits: the Seq is as wanted, and the frame for the others is the log's last one, if there is a batch.
func commits(t *testing.T, r *Replica, want int) {
	t.Helper()
	before := len(r.Log())
	seq, frame, e := r.Commit()
	if seq != want || (frame != "") != (want > 0) || r.Log()[before:] != frame || e != api.OK {
		t.Errorf("P9: Commit = %d, %x, %d, want %d", seq, frame, e, want)
	}
}

func goesWell(t *testing.T, list ...api.Errno) {
	t.Helper()
	for i, e := range list {
		if e != api.OK {
			t.Errorf("call %d: %d", i, e)
		}
	}
}

// inserts are so many Inserts of the value 7.
func inserts(n int) []api.Effect {
	return slices.Repeat([]api.Effect{{Op: api.Insert, Object: 1, Value: 7}}, n)
}

func TestMostDots(t *testing.T) {
	r := New(0, 3)
	for i := range 30 {
		arrive(t, r, 1, i+1, inserts(5)...)
	}
	goesWell(t, r.Begin(), r.Do(api.Remove, 1, 7, 0))
	reads(t, r, 1)
	if e := r.effects[0]; len(e.Dots) != 150 || e.Dots[149] != (api.Dot{Origin: 1, Seq: 30, Index: 4}) {
		t.Errorf("P7: the Dots are %v", e.Dots)
	}
	goesWell(t, r.Abort())
	arrive(t, r, 2, 1, inserts(1)...)
	goesWell(t, r.Begin())
	if e := r.Do(api.Remove, 1, 7, 0); e != api.ErrBig || len(r.effects) != 0 {
		t.Errorf("P7: a Remove of 151 Dots: %d, want ErrBig", e)
	}
	reads(t, r, 1, 7)
	goesWell(t, r.Do(api.Remove, 1, 8, 0))
	commits(t, r, 0)
}

// A batch of 150 Dots is one that can be committed.
func TestMostDotsCommitted(t *testing.T) {
	r := New(2, 4)
	for i := range 30 {
		arrive(t, r, 3, i+1, inserts(5)...)
	}
	before := len(r.Log())
	goesWell(t, r.Begin(), r.Do(api.Remove, 1, 7, 0))
	commits(t, r, 1)
	reads(t, r, 1)
	b, err := frames.Decode(r.Log()[before:])
	if err != nil || b.Time != 31 || len(b.Effects[0].Dots) != 150 || !slices.Equal(b.Clock, []int{0, 0, 0, 30}) {
		t.Errorf("P9: the log's last batch is %v, %v", b, err)
	}
}

// An open transaction's effects have the Time that their batch would have if it were made now.
func TestTimeOfTheOpenTransaction(t *testing.T) {
	r := New(0, 2)
	goesWell(t, r.Begin(), r.Do(api.Put, 3, 0, 1), r.Do(api.Put, 3, 1, 2))
	reads(t, r, 3, 1, 2)
	arrive(t, r, 1, 5, api.Effect{Op: api.Put, Object: 3, Value: 9})
	reads(t, r, 3, 1, 2, 9)
	goesWell(t, r.Do(api.Put, 3, 3, 3))
	commits(t, r, 1)
	reads(t, r, 3, 1, 2, 9, 3)
	want, _ := frames.Encode(api.Batch{Seq: 1, Time: 6, Clock: []int{0, 1}, Effects: []api.Effect{
		{Op: api.Put, Object: 3, Value: 1},
		{Op: api.Put, Object: 3, Value: 2, Ref: api.Dot{Origin: 0, Seq: 1, Index: 0}},
		{Op: api.Put, Object: 3, Value: 3, Ref: api.Dot{Origin: 1, Seq: 1, Index: 0}},
	}})
	if log := r.Log(); len(log) < len(want) || log[len(log)-len(want):] != want {
		t.Errorf("P9: the log is %x, want %x at its end", log, want)
	}
}

// The Time is above all that are delivered, not only above the last one.
func TestTimeIsAboveAll(t *testing.T) {
	r := New(2, 3)
	arrive(t, r, 0, 8, api.Effect{Op: api.Add, Value: 1})
	arrive(t, r, 1, 3, api.Effect{Op: api.Add, Value: 1})
	goesWell(t, r.Begin(), r.Do(api.Add, 0, 1, 0))
	if b := r.pending(); b.Time != 9 || !slices.Equal(b.Clock, []int{1, 1, 0}) {
		t.Errorf("P9: the batch is %v", b)
	}
	reads(t, r, 0, 3)
}

func TestRegisterOfSeveral(t *testing.T) {
	r := New(0, 3)
	arrive(t, r, 2, 1, api.Effect{Op: api.Write, Object: 6, Value: 4})
	arrive(t, r, 1, 2, api.Effect{Op: api.Write, Object: 6, Value: 5})
	reads(t, r, 6, 5, 4)
	goesWell(t, r.Begin(), r.Do(api.Write, 6, 3, 0))
	reads(t, r, 6, 3)
	want := []api.Dot{{Origin: 1, Seq: 1, Index: 0}, {Origin: 2, Seq: 1, Index: 0}}
	if got := r.effects[0].Dots; !slices.Equal(got, want) {
		t.Errorf("P7: the Dots are %v, want %v", got, want)
	}
	goesWell(t, r.Abort())
	reads(t, r, 6, 5, 4)
}

// Commit syncs all of the log, what others sent among it; nothing else here does.
func TestCommitSyncs(t *testing.T) {
	r := New(0, 2)
	arrive(t, r, 1, 1, api.Effect{Op: api.Add, Value: 1})
	goesWell(t, r.Begin())
	commits(t, r, 0)
	if r.log.synced != 0 {
		t.Errorf("P9: %d bytes are synced without a batch", r.log.synced)
	}
	goesWell(t, r.Begin(), r.Do(api.Add, 0, 1, 0))
	commits(t, r, 1)
	if n := len(r.Log()); n == 0 || r.log.synced != n {
		t.Errorf("P9: %d bytes are synced of %d", r.log.synced, n)
	}
}
