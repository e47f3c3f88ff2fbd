package heap

import (
	"math/rand"
	"slices"
	"testing"
)

func less(a, b int) bool { return a < b }

func heapOf(items ...int) *Heap[int] {
	h := New(less)
	for _, x := range items {
		h.Push(x)
	}
	return h
}

// emptied is all items in the order in which they come out.
func emptied(t *testing.T, h *Heap[int]) []int {
	t.Helper()
	var list []int
	for n := h.Len(); n > 0; n-- {
		x, found := h.Pop()
		if !found || h.Len() != n-1 {
			t.Fatalf("Pop = %d, %t; %d items of %d are left", x, found, h.Len(), n)
		}
		list = append(list, x)
	}
	if x, found := h.Pop(); x != 0 || found {
		t.Errorf("Pop of none = %d, %t", x, found)
	}
	return list
}

func TestLeastFirst(t *testing.T) {
	dice := rand.New(rand.NewSource(1))
	for n := range 20 {
		for range 50 {
			items := make([]int, n)
			for i := range items {
				items[i] = dice.Intn(n) // some twice
			}
			if got, want := emptied(t, heapOf(items...)), slices.Sorted(slices.Values(items)); !slices.Equal(got, want) {
				t.Fatalf("%v came out as %v", items, got)
			}
		}
	}
}

// What is less is what the function says.
func TestOrderOfOnesOwn(t *testing.T) {
	h := New(func(a, b string) bool { return len(a) > len(b) })
	for _, s := range []string{"a", "ccc", "bb", "dddd"} {
		h.Push(s)
	}
	for _, want := range []string{"dddd", "ccc", "bb", "a"} {
		if got, found := h.Pop(); got != want || !found {
			t.Errorf("Pop = %s, %t, want %s", got, found, want)
		}
	}
}

func TestPushBetweenPops(t *testing.T) {
	h := heapOf(5, 3, 9)
	if x, _ := h.Pop(); x != 3 {
		t.Errorf("Pop = %d, want 3", x)
	}
	h.Push(1)
	h.Push(7)
	if got := emptied(t, h); !slices.Equal(got, []int{1, 5, 7, 9}) {
		t.Errorf("the rest is %v", got)
	}
}

func odd(n int) bool { return n%2 == 1 }

func TestTake(t *testing.T) {
	h := heapOf(8, 5, 2, 7, 4)
	for _, want := range []int{5, 7} {
		if !h.Has(odd) {
			t.Errorf("no odd one is left ahead of %d", want)
		}
		if x, found := h.Take(odd); x != want || !found {
			t.Errorf("Take = %d, %t, want %d", x, found, want)
		}
	}
	if x, found := h.Take(odd); x != 0 || found || h.Has(odd) {
		t.Errorf("Take of none = %d, %t", x, found)
	}
	if got := emptied(t, h); !slices.Equal(got, []int{2, 4, 8}) {
		t.Errorf("the rest is %v", got)
	}
}
