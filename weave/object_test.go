package weave_test

import (
	"math"
	"reflect"
	"slices"
	"testing"

	"weave/api"
)

func TestCounter(t *testing.T) {
	p := newPlay(t, 2)
	p.begin(0)
	p.do(0, api.Add, 0, 1000, 0)
	p.do(0, api.Add, 0, -1, 0)
	p.do(0, api.Add, 4, -1000, 0)
	p.read(0, 0, 999)
	p.read(0, 4, -1000)
	p.commit(0, 1)
	p.read(0, 0, 999)
	p.begin(0)
	p.do(0, api.Add, 0, 5, 0)
	p.read(0, 0, 1004)
	p.abort(0)
	p.read(0, 0, 999)
	for range 28 {
		p.begin(0)
		for range 5 {
			p.do(0, api.Add, 4, -1000, 0)
		}
		p.Commit(0)
	}
	p.read(0, 4, -141000)
}

func TestSet(t *testing.T) {
	p := newPlay(t, 2)
	p.begin(0)
	for _, n := range []int{255, 9, 0, 9, 100} {
		p.do(0, api.Insert, 1, n, 0)
	}
	p.read(0, 1, 0, 9, 100, 255)
	p.read(0, 5)
	p.commit(0, 1)
	p.read(0, 1, 0, 9, 100, 255)
	p.begin(0)
	p.do(0, api.Remove, 1, 9, 0)
	p.read(0, 1, 0, 100, 255)
	p.do(0, api.Insert, 1, 9, 0)
	p.do(0, api.Remove, 1, 255, 0)
	p.read(0, 1, 0, 9, 100)
	p.abort(0)
	p.read(0, 1, 0, 9, 100, 255)
	p.once(0, api.Remove, 1, 0, 0)
	p.once(0, api.Insert, 5, 0, 0)
	p.read(0, 1, 9, 100, 255)
	p.read(0, 5, 0)
	p.once(0, api.Insert, 1, 0, 0)
	p.read(0, 1, 0, 9, 100, 255)
}

func TestRemoveOfWhatIsNotThere(t *testing.T) {
	p := newPlay(t, 2)
	p.begin(0)
	p.do(0, api.Remove, 1, 4, 0)
	p.do(0, api.Insert, 5, 4, 0)
	p.do(0, api.Remove, 1, 4, 0)
	p.do(0, api.Insert, 1, 4, 0)
	p.do(0, api.Remove, 1, 4, 0)
	p.do(0, api.Remove, 1, 4, 0)
	p.fill(0, 3)
	before := p.all()
	p.do(0, api.Remove, 1, 4, 0)
	p.do(0, api.Remove, 1, 255, 0)
	p.is("P7: a Remove with Dots in a full transaction", p.Do(0, api.Remove, 5, 4, 0), api.ErrBig)
	p.is("P7: a wrong Remove in a full transaction", p.Do(0, api.Remove, 1, 256, 0), api.ErrValue)
	if after := p.all(); !reflect.DeepEqual(before, after) {
		t.Errorf("P7: a Remove without Dots changed %v to %v", before, after)
	}
	p.commit(0, 1)
	p.log(0, api.Batch{Seq: 1, Time: 1, Clock: []int{0, 0}, Effects: []api.Effect{
		{Op: api.Insert, Object: 5, Value: 4},
		{Op: api.Insert, Object: 1, Value: 4},
		{Op: api.Remove, Object: 1, Dots: dots(0, 1, 1)},
		{Op: api.Add, Object: 4},
		{Op: api.Add, Object: 4},
	}})
}

// One replica alone can gather 149 Dots at most.
func TestManyDots(t *testing.T) {
	p := newPlay(t, 2)
	for range 29 {
		p.begin(1)
		for range 5 {
			p.do(1, api.Insert, 1, 8, 0)
		}
		p.Commit(1)
	}
	p.begin(1)
	for range 4 {
		p.do(1, api.Insert, 1, 8, 0)
	}
	p.read(1, 1, 8)
	p.do(1, api.Remove, 1, 8, 0)
	p.read(1, 1)
	p.commit(1, 30)
	list := decoded(t, must(p.Log(1)))
	var want []api.Dot
	for i := range 149 {
		want = append(want, dot(1, i/5+1, i%5))
	}
	if got := list[29].Effects[4].Dots; !slices.Equal(got, want) {
		t.Errorf("P7: the Dots are %v", got)
	}
}

func TestRegister(t *testing.T) {
	p := newPlay(t, 2)
	p.begin(0)
	p.do(0, api.Write, 2, 255, 0)
	p.read(0, 2, 255)
	p.do(0, api.Write, 2, 0, 0)
	p.read(0, 2, 0)
	p.read(0, 6)
	p.commit(0, 1)
	p.read(0, 2, 0)
	p.begin(0)
	p.do(0, api.Write, 2, 7, 0)
	p.do(0, api.Write, 6, 8, 0)
	p.read(0, 2, 7)
	p.abort(0)
	p.read(0, 2, 0)
	p.read(0, 6)
	p.once(0, api.Write, 2, 0, 0)
	p.read(0, 2, 0)
}

func TestList(t *testing.T) {
	p := newPlay(t, 2)
	p.begin(0)
	p.do(0, api.Put, 3, 0, 65)
	p.do(0, api.Put, 3, 1, 67)
	p.do(0, api.Put, 3, 1, 66)
	p.do(0, api.Put, 3, 0, 64)
	p.do(0, api.Put, 3, 4, 68)
	p.read(0, 3, 64, 65, 66, 67, 68)
	p.read(0, 7)
	p.commit(0, 1)
	p.read(0, 3, 64, 65, 66, 67, 68)
	p.begin(0)
	p.do(0, api.Erase, 3, 4, 0)
	p.do(0, api.Erase, 3, 0, 0)
	p.do(0, api.Erase, 3, 1, 0)
	p.read(0, 3, 65, 67)
	p.do(0, api.Put, 3, 2, 90)
	p.do(0, api.Put, 3, 1, 91)
	p.read(0, 3, 65, 91, 67, 90)
	p.abort(0)
	p.read(0, 3, 64, 65, 66, 67, 68)
	p.begin(0)
	p.do(0, api.Erase, 3, 1, 0)
	p.do(0, api.Put, 3, 1, 65)
	p.do(0, api.Erase, 3, 1, 0)
	p.commit(0, 2)
	p.read(0, 3, 64, 66, 67, 68)
	p.once(0, api.Put, 3, 0, 0)
	p.once(0, api.Put, 3, 5, 255)
	p.read(0, 3, 0, 64, 66, 67, 68, 255)
}

// Elements stand where they were put, wherever that is and whatever was erased there.
func TestPutAtEveryPlace(t *testing.T) {
	for first := range 3 {
		for second := range 4 {
			p := newPlay(t, 2)
			want := []int{10, 11}
			p.begin(1)
			p.do(1, api.Put, 7, 0, 10)
			p.do(1, api.Put, 7, 1, 11)
			p.do(1, api.Put, 7, first, 12)
			want = slices.Insert(want, first, 12)
			p.commit(1, 1)
			p.once(1, api.Put, 7, second, 13)
			want = slices.Insert(want, second, 13)
			p.read(1, 7, want...)
			for gone := range 4 {
				p.begin(1)
				p.do(1, api.Erase, 7, gone, 0)
				left := slices.Delete(slices.Clone(want), gone, gone+1)
				for place := range 4 {
					p.do(1, api.Put, 7, place, 14)
					left = slices.Insert(left, place, 14)
					p.read(1, 7, left...)
				}
				p.abort(1)
			}
		}
	}
}

// far are numbers that are no value of anything.
var far = []int{math.MinInt, -1 << 32, -1 << 16, -1001, 1001, 1 << 16, 1 << 32, math.MaxInt}

func TestValues(t *testing.T) {
	for _, c := range []struct{ op, object, least, greatest int }{
		{api.Add, 0, -1000, 1000},
		{api.Add, 4, -1000, 1000},
		{api.Insert, 1, 0, 255},
		{api.Insert, 5, 0, 255},
		{api.Remove, 1, 0, 255},
		{api.Write, 2, 0, 255},
		{api.Write, 6, 0, 255},
		{api.Put, 3, 0, 255},
	} {
		do := func(p play, n int) api.Errno {
			if c.op == api.Put {
				return p.Do(0, c.op, c.object, 0, n)
			}
			return p.Do(0, c.op, c.object, n, math.MinInt)
		}
		p := newPlay(t, 2)
		p.begin(0)
		before := p.all()
		for _, n := range append([]int{c.least - 1, c.least - 2, c.greatest + 1, c.greatest + 2}, far...) {
			p.is(name("P7: a value that may not be", n), do(p, n), api.ErrValue)
		}
		if after := p.all(); !reflect.DeepEqual(before, after) {
			t.Errorf("P1: refused operations changed %v to %v", before, after)
		}
		for _, n := range []int{c.least, c.least + 1, c.greatest - 1, c.greatest} {
			p.is(name("P7: a value", n), do(p, n), api.OK)
		}
		p.fill(0, 4)
		for _, n := range []int{c.least - 1, c.greatest + 1} {
			p.is("P7: a value that may not be, in a full transaction", do(p, n), api.ErrValue)
		}
	}
}

func TestPlaces(t *testing.T) {
	for length := range 4 {
		p := newPlay(t, 2)
		p.begin(0)
		for i := range length {
			p.do(0, api.Put, 3, i, i)
		}
		p.do(0, api.Put, 3, 0, 200)
		p.do(0, api.Erase, 3, 0, 0)
		p.Commit(0)
		p.begin(0)
		refusals := func(what string) {
			t.Helper()
			before := p.all()
			for _, place := range append([]int{-1, length + 1, length + 2}, far...) {
				p.is(name("P7: Put"+what+" at", place), p.Do(0, api.Put, 3, place, 1), api.ErrPlace)
				p.is(name("P7: Put of 256"+what+" at", place), p.Do(0, api.Put, 3, place, 256), api.ErrValue)
				p.is(name("P7: Put of -1"+what+" at", place), p.Do(0, api.Put, 3, place, -1), api.ErrValue)
			}
			for _, place := range append([]int{-1, length, length + 1}, far...) {
				p.is(name("P7: Erase"+what+" at", place), p.Do(0, api.Erase, 3, place, -1), api.ErrPlace)
			}
			if after := p.all(); !reflect.DeepEqual(before, after) {
				t.Errorf("P1: refused operations%s changed %v to %v", what, before, after)
			}
		}
		refusals("")
		p.do(0, api.Put, 3, length, 255)
		p.do(0, api.Erase, 3, length, 0)
		p.fill(0, 2)
		refusals(", the transaction being full,")
	}
}

func TestFullTransaction(t *testing.T) {
	p := newPlay(t, 2)
	p.begin(1)
	p.do(1, api.Insert, 1, 4, 0)
	p.do(1, api.Put, 3, 0, 4)
	p.do(1, api.Add, 0, 4, 0)
	p.do(1, api.Write, 2, 4, 0)
	p.do(1, api.Put, 3, 1, 5)
	before := p.all()
	for _, c := range [][4]int{
		{api.Add, 0, 0, 0}, {api.Add, 4, 1000, 0}, {api.Insert, 1, 4, 0}, {api.Insert, 5, 0, 0}, {api.Remove, 1, 4, 0},
		{api.Write, 2, 4, 0}, {api.Write, 6, 0, 0}, {api.Put, 3, 2, 0}, {api.Put, 7, 0, 255}, {api.Erase, 3, 1, 0},
	} {
		p.is(name("P7: a sixth effect, Op", c[0]), p.Do(1, c[0], c[1], c[2], c[3]), api.ErrBig)
	}
	if after := p.all(); !reflect.DeepEqual(before, after) {
		t.Errorf("P1: refused operations changed %v to %v", before, after)
	}
	p.commit(1, 1)
	p.begin(1)
	p.fill(1, 0)
	p.is("P7: a sixth effect", p.Do(1, api.Add, 0, 1, 0), api.ErrBig)
	p.abort(1)
	p.begin(1)
	p.fill(1, 0)
	p.commit(1, 2)
}

// Errors have their order: what is asked for later is wrong as well in each of these.
func TestOrderOfErrors(t *testing.T) {
	kinds := map[int]int{api.Add: api.Counter, api.Insert: api.Set, api.Remove: api.Set, api.Write: api.Register, api.Put: api.List, api.Erase: api.List}
	numbers := []int{math.MinInt, -256, -8, -7, -4, -1, 0, 1, 2, 3, 4, 5, 6, 7, 8, 9, 11, 255, 256, 257, 1<<32 + 1, math.MaxInt}
	p := newPlay(t, 2)
	p.begin(0)
	before := p.all()
	for _, op := range numbers {
		for _, object := range numbers {
			kind, known := kinds[op]
			want := api.ErrValue
			switch {
			case object < 0 || object >= 8:
				want = api.ErrObject
			case !known || object%4 != kind:
				want = api.ErrKind
			case op == api.Erase:
				want = api.ErrPlace
			}
			at := name("P7: Op", op) + name(", object", object)
			p.is(at, p.Do(0, op, object, math.MaxInt, math.MaxInt), want)
			p.is(at+", no transaction", p.Do(1, op, object, math.MaxInt, math.MaxInt), api.ErrIdle)
			p.is(at+", no replica", p.Do(2, op, object, math.MaxInt, math.MaxInt), api.ErrReplica)
		}
	}
	for _, object := range []int{math.MinInt, -256, -8, -1, 8, 9, 256, 1 << 32, math.MaxInt} {
		for r := range 2 {
			if l, e := p.Read(r, object); len(l) != 0 || e != api.ErrObject {
				t.Errorf("P8: Read(%d, %d) = %v, %d, want none and ErrObject", r, object, l, e)
			}
		}
	}
	if after := p.all(); !reflect.DeepEqual(before, after) {
		t.Errorf("P1: refused calls changed %v to %v", before, after)
	}
	p.commit(0, 0)
}
