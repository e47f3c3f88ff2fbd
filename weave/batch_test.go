package weave_test

import (
	"math"
	"slices"
	"strconv"
	"testing"

	"weave/api"
)

func name(words string, n int) string { return words + " " + strconv.Itoa(n) }

// bounds: with is a batch at all numbers from least to greatest, and at none beyond.
func bounds(t *testing.T, words string, least, greatest int, with func(n int) api.Batch) {
	t.Helper()
	for _, n := range []int{least, min(least+1, greatest), max(greatest-1, least), greatest} {
		accept(t, name(words, n), with(n))
	}
	for _, by := range []int{1, 2, 256, 1 << 16, 1 << 32} {
		refuse(t, name(words, least-by), with(least-by))
		refuse(t, name(words, greatest+by), with(greatest+by))
	}
	refuse(t, words+", the least int", with(math.MinInt))
	refuse(t, words+", the greatest int", with(math.MaxInt))
}

func TestHeadBounds(t *testing.T) {
	add := []api.Effect{{Op: api.Add, Value: 1}}
	bounds(t, "Seq", 1, 30, func(n int) api.Batch {
		return api.Batch{Origin: 1, Seq: n, Time: 1, Clock: []int{0, n - 1}, Effects: add}
	})
	bounds(t, "Time", 1, 200, func(n int) api.Batch {
		return api.Batch{Seq: 1, Time: n, Clock: []int{0, 0}, Effects: add}
	})
	for other := 1; other < 4; other++ {
		bounds(t, name("Clock of", other), 0, 30, func(n int) api.Batch {
			b := api.Batch{Seq: 4, Time: 3, Clock: []int{3, 1, 2, 1}, Effects: add}
			b.Clock[other] = n
			return b
		})
	}
	for length := 2; length <= 4; length++ {
		bounds(t, name("Origin, replicas", length), 0, length-1, func(n int) api.Batch {
			return api.Batch{Origin: n, Seq: 3, Time: 3, Clock: slices.Repeat([]int{2}, length), Effects: add}
		})
	}
}

func TestOwnClock(t *testing.T) {
	for origin := range 3 {
		for seq := 1; seq <= 30; seq++ {
			for own := 0; own <= 30; own++ {
				b := api.Batch{Origin: origin, Seq: seq, Time: 1, Clock: []int{5, 5, 5}, Effects: []api.Effect{{Op: api.Add}}}
				b.Clock[origin] = own
				judge(t, own == seq-1, "Seq and Clock", b)
			}
		}
	}
}

func TestLengths(t *testing.T) {
	for _, n := range []int{0, 1, 2, 3, 4, 5, 6, 255, 256, 258, 65538} {
		judge(t, n >= 2 && n <= 4, name("Clock's length", n), api.Batch{Seq: 1, Time: 1, Clock: make([]int, n), Effects: []api.Effect{{Op: api.Add}}})
	}
	for _, n := range []int{0, 1, 2, 4, 5, 6, 7, 255, 256, 257, 65537} {
		judge(t, n >= 1 && n <= 5, name("effects", n), batchOf(slices.Repeat([]api.Effect{{Op: api.Add}}, n)...))
	}
	refuse(t, "nothing at all", api.Batch{})
}

// effectOf is an effect of the operation with just what it must have.
func effectOf(op, object int) api.Effect {
	e := api.Effect{Op: op, Object: object}
	switch op {
	case api.Remove:
		e.Dots = dots(0, 1, 0)
	case api.Erase:
		e.Ref = dot(0, 1, 0)
	}
	return e
}

func TestOperationsAndObjects(t *testing.T) {
	kinds := map[int]int{api.Add: api.Counter, api.Insert: api.Set, api.Remove: api.Set, api.Write: api.Register, api.Put: api.List, api.Erase: api.List}
	numbers := []int{math.MinInt, -256, -9, -8, -7, -6, -5, -4, -3, -2, -1, 0, 1, 2, 3, 4, 5, 6, 7, 8, 9, 10, 11, 12, 255, 256, 257, 258, 259, 260, 1<<32 + 3, math.MaxInt}
	for _, op := range numbers {
		for _, object := range numbers {
			kind, known := kinds[op]
			good := known && object >= 0 && object < 8 && object%4 == kind
			judge(t, good, name("Op", op)+name(", Object", object), batchOf(effectOf(op, object)))
		}
	}
}

func TestValueBounds(t *testing.T) {
	for _, c := range []struct{ op, object, least, greatest int }{
		{api.Add, 0, -1000, 1000},
		{api.Insert, 1, 0, 255},
		{api.Remove, 1, 0, 0},
		{api.Write, 2, 0, 255},
		{api.Put, 3, 0, 255},
		{api.Erase, 3, 0, 0},
	} {
		bounds(t, name("Value, Op", c.op), c.least, c.greatest, func(n int) api.Batch {
			e := effectOf(c.op, c.object)
			e.Value = n
			return batchOf(e)
		})
	}
}

func TestNumberOfDots(t *testing.T) {
	for _, c := range []struct{ op, object, least, most int }{
		{api.Add, 4, 0, 0},
		{api.Insert, 5, 0, 0},
		{api.Remove, 5, 1, 150},
		{api.Write, 6, 0, 150},
		{api.Put, 7, 0, 0},
		{api.Erase, 7, 0, 0},
	} {
		for _, n := range []int{0, 1, 2, 149, 150, 151, 255, 256, 257, 300} {
			e := effectOf(c.op, c.object)
			e.Dots = coveredDots(n)
			b := api.Batch{Origin: 2, Seq: 1, Time: 1, Clock: []int{30, 30, 0}, Effects: []api.Effect{e}}
			judge(t, n >= c.least && n <= c.most, name("Op", c.op)+name(", Dots", n), b)
		}
	}
}

// naming are effects that name a dot, by a Ref or by Dots.
func naming(d api.Dot) []api.Effect {
	return []api.Effect{
		{Op: api.Put, Object: 3, Ref: d},
		{Op: api.Erase, Object: 7, Ref: d},
		{Op: api.Remove, Object: 1, Dots: []api.Dot{d}},
		{Op: api.Write, Object: 6, Dots: []api.Dot{d}},
	}
}

// covered is the list of all dots that batchOf's batches cover at their effect number i.
func covered(i int) []api.Dot {
	var list []api.Dot
	for index := range 5 {
		for seq := 1; seq <= 7; seq++ {
			list = append(list, dot(0, seq, index))
		}
		for seq := 1; seq <= 4; seq++ {
			list = append(list, dot(1, seq, index))
		}
		if index < i {
			list = append(list, dot(1, 5, index))
		}
	}
	return list
}

func TestCovered(t *testing.T) {
	for i := range 5 {
		list := covered(i)
		for origin := -1; origin <= 4; origin++ {
			for seq := -1; seq <= 9; seq++ {
				for index := -1; index <= 6; index++ {
					d := dot(origin, seq, index)
					for _, e := range naming(d) {
						good := slices.Contains(list, d) || e.Op == api.Put && d == dot(0, 0, 0)
						judge(t, good, name("dot named at effect", i), behind(i, e))
					}
				}
			}
		}
	}
}

func TestCoveredBounds(t *testing.T) {
	for k, e := range naming(dot(0, 1, 0)) {
		with := func(d api.Dot) api.Batch {
			b := batchOf(naming(d)[k])
			b.Clock = []int{30, 4, 30, 7}
			return b
		}
		at := name("named by Op", e.Op)
		bounds(t, "Index "+at, 0, 4, func(n int) api.Batch { return with(dot(0, 1, n)) })
		bounds(t, "Seq of 0 "+at, 1, 30, func(n int) api.Batch { return with(dot(0, n, 4)) })
		bounds(t, "Seq of 1 "+at, 1, 4, func(n int) api.Batch { return with(dot(1, n, 4)) })
		bounds(t, "Seq of 3 "+at, 1, 7, func(n int) api.Batch { return with(dot(3, n, 4)) })
		bounds(t, "Origin "+at, 0, 3, func(n int) api.Batch { return with(dot(n, 1, 2)) })
	}
}

func TestRefs(t *testing.T) {
	for op := api.Add; op <= api.Erase; op++ {
		e := effectOf(op, map[int]int{api.Add: 0, api.Insert: 1, api.Remove: 1, api.Write: 2, api.Put: 3, api.Erase: 3}[op])
		e.Ref = dot(0, 2, 1)
		judge(t, op == api.Put || op == api.Erase, name("a Ref, Op", op), batchOf(e))
		e.Ref = api.Dot{}
		judge(t, op != api.Erase, name("no Ref, Op", op), batchOf(e))
		for _, d := range dots(0, 0, 1, 1, 0, 0, 0, -1, 0) {
			e.Ref = d
			refuse(t, name("a Ref of Seq 0 or less, Op", op), batchOf(e))
		}
	}
}

func TestDotsRise(t *testing.T) {
	all := dots(0, 1, 0, 0, 1, 4, 0, 2, 0, 0, 7, 3, 1, 1, 0, 1, 1, 2, 1, 4, 4)
	for i, a := range all {
		for k, b := range all {
			for _, e := range naming(a)[2:] {
				e.Dots = append(e.Dots, b)
				judge(t, i < k, name("two Dots, Op", e.Op), batchOf(e))
			}
		}
	}
	for _, e := range naming(dot(0, 1, 0))[2:] {
		e.Dots = all
		accept(t, "many Dots", batchOf(e))
		e.Dots = append(slices.Clone(all), all[len(all)-1])
		refuse(t, "the last twice", batchOf(e))
		e.Dots = append(slices.Clone(all), dot(1, 5, 0))
		refuse(t, "the last one not covered", batchOf(e))
		accept(t, "the last one of this batch", behind(1, e))
	}
}

// A batch is one only if all of its effects are right, the last one too.
func TestEveryEffectCounts(t *testing.T) {
	for i := range 5 {
		accept(t, "right", behind(i, api.Effect{Op: api.Insert, Object: 1, Value: 255}))
		refuse(t, name("wrong effect", i), behind(i, api.Effect{Op: api.Insert, Object: 1, Value: 256}))
		b := batchOf(slices.Repeat([]api.Effect{{Op: api.Add, Value: 1}}, 5)...)
		b.Effects[i].Value = 1001
		refuse(t, name("wrong effect of five", i), b)
	}
}
