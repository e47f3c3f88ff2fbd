package weave_test

import (
	"encoding/hex"
	"hash/crc32"
	"math"
	"reflect"
	"slices"
	"strings"
	"testing"

	"weave/api"
	"weave/weave"
)

func dot(origin, seq, index int) api.Dot {
	return api.Dot{Origin: origin, Seq: seq, Index: index}
}

func dots(numbers ...int) []api.Dot {
	var list []api.Dot
	for three := range slices.Chunk(numbers, 3) {
		list = append(list, dot(three[0], three[1], three[2]))
	}
	return list
}

// coveredDots are the first n of the dots that a batch with the Clock 30 30 0 covers.
func coveredDots(n int) []api.Dot {
	var list []api.Dot
	for i := range n {
		list = append(list, dot(i/150, i/5%30+1, i%5))
	}
	return list
}

// batchOf is a batch of three replicas, which covers all dots of 0 up to Seq 7, of 1 up to Seq 4, none of 2.
func batchOf(effects ...api.Effect) api.Batch {
	return api.Batch{Origin: 1, Seq: 5, Time: 9, Clock: []int{7, 4, 0}, Effects: effects}
}

// behind is a batch with effects ahead of e, so that e is its number i.
func behind(i int, e api.Effect) api.Batch {
	return batchOf(append(slices.Repeat([]api.Effect{{Op: api.Put, Object: 3, Value: 1}}, i), e)...)
}

func unhex(s string) string {
	b, err := hex.DecodeString(strings.ReplaceAll(s, " ", ""))
	if err != nil {
		panic(err)
	}
	return string(b)
}

// sealed and framed make right sums and lengths for contents that may be wrong.
func sealed(s string) string {
	n := crc32.ChecksumIEEE([]byte(s))
	return s + string([]byte{byte(n >> 24), byte(n >> 16), byte(n >> 8), byte(n)})
}

func framed(content string) string {
	n := len(content) + 6
	return sealed(string([]byte{byte(n >> 8), byte(n)}) + content)
}

// writer writes batches and what is like one; it tells when bytes can't say what is to be said.
type writer struct {
	bytes []byte
	fails bool
}

func (w *writer) put(numbers ...int) {
	for _, n := range numbers {
		w.fails = w.fails || n < 0 || n > 255
		w.bytes = append(w.bytes, byte(n))
	}
}

func (w *writer) dots(list ...api.Dot) {
	for _, d := range list {
		w.put(d.Origin, d.Seq, d.Index)
	}
}

func (w *writer) effect(e api.Effect) {
	w.put(e.Op, e.Object)
	w.fails = w.fails || e.Value < math.MinInt16 || e.Value > math.MaxInt16
	w.bytes = append(w.bytes, byte(uint16(e.Value)/256), byte(uint16(e.Value)%256))
	switch e.Op {
	case api.Put, api.Erase:
		w.dots(e.Ref)
		w.fails = w.fails || len(e.Dots) > 0
	case api.Remove, api.Write:
		w.put(len(e.Dots))
		w.dots(e.Dots...)
		w.fails = w.fails || e.Ref != dot(0, 0, 0)
	default:
		w.fails = w.fails || len(e.Dots) > 0 || e.Ref != dot(0, 0, 0)
	}
}

func frameOf(b api.Batch) (string, bool) {
	w := &writer{}
	w.put(b.Origin, b.Seq, b.Time, len(b.Clock))
	w.put(b.Clock...)
	w.put(len(b.Effects))
	for _, e := range b.Effects {
		w.effect(e)
	}
	return framed(string(w.bytes)), !w.fails
}

// plain is a copy in which lists without elements are nil.
func plain(b api.Batch) api.Batch {
	b.Clock = append([]int(nil), b.Clock...)
	b.Effects = append([]api.Effect(nil), b.Effects...)
	for i := range b.Effects {
		b.Effects[i].Dots = append([]api.Dot(nil), b.Effects[i].Dots...)
	}
	return b
}

func same(a, b api.Batch) bool { return reflect.DeepEqual(plain(a), plain(b)) }

// accept: b is a batch, for Encode and for Decode.
func accept(t *testing.T, name string, b api.Batch) {
	t.Helper()
	want, ok := frameOf(b)
	if !ok {
		t.Fatalf("%s: no frame can say %v", name, b)
	}
	if s, e := weave.Encode(b); s != want || e != api.OK {
		t.Errorf("P3, %s: Encode(%v) = %x, %d, want %x", name, b, s, e, want)
	}
	if got, e := weave.Decode(want); !same(got, b) || e != api.OK {
		t.Errorf("P4, %s: Decode(%x) = %v, %d, want %v", name, want, got, e, b)
	}
}

// refuse: b is no batch, for Encode and, where bytes can say it, for Decode.
func refuse(t *testing.T, name string, b api.Batch) {
	t.Helper()
	if s, e := weave.Encode(b); s != "" || e != api.ErrBatch {
		t.Errorf("P3, %s: Encode(%v) = %x, %d, want none and ErrBatch", name, b, s, e)
	}
	if s, ok := frameOf(b); ok {
		refuseBytes(t, name, s)
	}
}

func refuseBytes(t *testing.T, name string, s string) {
	t.Helper()
	if b, e := weave.Decode(s); !reflect.DeepEqual(b, api.Batch{}) || e != api.ErrFrame {
		t.Errorf("P4, %s: Decode(%x) = %v, %d, want none and ErrFrame", name, s[:min(len(s), 60)], b, e)
	}
}

// judge: b is a batch just if good.
func judge(t *testing.T, good bool, name string, b api.Batch) {
	t.Helper()
	if good {
		accept(t, name, b)
	} else {
		refuse(t, name, b)
	}
}

// samples are batches of every operation and of every number of replicas.
func samples() []api.Batch {
	return []api.Batch{
		{Origin: 1, Seq: 2, Time: 5, Clock: []int{3, 1}, Effects: []api.Effect{
			{Op: api.Add, Object: 4, Value: -2},
		}},
		batchOf(
			api.Effect{Op: api.Insert, Object: 1, Value: 200},
			api.Effect{Op: api.Remove, Object: 5, Dots: dots(0, 7, 4, 1, 4, 0, 1, 5, 0)},
			api.Effect{Op: api.Write, Object: 2, Value: 3, Dots: dots(0, 1, 0)},
			api.Effect{Op: api.Put, Object: 3, Value: 65, Ref: dot(0, 2, 1)},
			api.Effect{Op: api.Erase, Object: 7, Ref: dot(1, 5, 3)},
		),
		{Origin: 3, Seq: 30, Time: 200, Clock: []int{0, 30, 7, 29}, Effects: []api.Effect{
			{Op: api.Write, Object: 6, Value: 255},
			{Op: api.Put, Object: 7, Value: 0},
			{Op: api.Add, Object: 0, Value: 1000},
		}},
	}
}
