package frames

import (
	"slices"
	"testing"

	"weave/api"
)

// three are frames of batches with the Seqs 1 to 3, of different lengths.
func three(t *testing.T) []string {
	t.Helper()
	var list []string
	for i := range 3 {
		b := api.Batch{Origin: 1, Seq: i + 1, Time: 9, Clock: []int{4, i}}
		for range i + 1 {
			b.Effects = append(b.Effects, api.Effect{Op: api.Put, Object: 3, Value: 5})
		}
		s, err := Encode(b)
		if err != nil {
			t.Fatal(err)
		}
		list = append(list, s)
	}
	return list
}

// passed is the frames that All goes through in s, each of them that of its batch.
func passed(t *testing.T, s string) []string {
	t.Helper()
	var list []string
	for b, frame := range All(s) {
		if again, err := Encode(b); again != frame || err != nil {
			t.Errorf("%x came with the batch %v", frame, b)
		}
		list = append(list, frame)
	}
	return list
}

func TestAll(t *testing.T) {
	list := three(t)
	one, two, last := list[0], list[1], list[2]
	for _, c := range []struct {
		name, bytes string
		want        []string
	}{
		{"nothing", "", nil},
		{"one frame", one, list[:1]},
		{"three frames", one + two + last, list},
		{"another order", last + one, []string{last, one}},
		{"the first cut", one[:len(one)-1], nil},
		{"the last cut", one + two + last[:len(last)-1], list[:2]},
		{"a byte left", one + two + last[:1], list[:2]},
		{"a byte behind, that tells much", one + "\xff", list[:1]},
		{"two bytes left", one + two + last[:2], list[:2]},
		{"zeros behind", one + "\x00\x00\x00\x00", list[:1]},
		{"a length of one", one + "\x00\x01\x00\x00", list[:1]},
		{"a length beyond the end", one + "\xff\xff" + two, list[:1]},
		{"no batch in between", one + framed("") + two, list[:1]},
		{"a spoilt one in between", one + two[:4] + "!" + two[5:] + last, list[:1]},
	} {
		if got := passed(t, c.bytes); !slices.Equal(got, c.want) {
			t.Errorf("%s: %x, want %x", c.name, got, c.want)
		}
	}
}

// Who has enough leaves, and may begin anew.
func TestAllIsLeft(t *testing.T) {
	list := three(t)
	all := All(list[0] + list[1] + list[2])
	for n := 1; n <= 3; n++ {
		var seqs []int
		for b := range all {
			seqs = append(seqs, b.Seq)
			if len(seqs) == n {
				break
			}
		}
		if !slices.Equal(seqs, []int{1, 2, 3}[:n]) {
			t.Errorf("the first %d are %v", n, seqs)
		}
	}
}
