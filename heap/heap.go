// Package heap has a heap: items of which the least can be taken out at once.
package heap

import "slices"

// Heap is items in an order in which none is less than its parent: that of number i is the one of number (i-1)/2.
type Heap[T any] struct {
	items []T
	less  func(a, b T) bool
}

// New is a heap without items; less tells which of two goes ahead.
func New[T any](less func(a, b T) bool) *Heap[T] {
	return &Heap[T]{less: less}
}

// Len is how many items there are.
func (h *Heap[T]) Len() int { return len(h.items) }

// Has tells whether there is an item that fits.
func (h *Heap[T]) Has(fits func(T) bool) bool { return slices.ContainsFunc(h.items, fits) }

// Push puts an item in.
func (h *Heap[T]) Push(item T) {
	h.items = append(h.items, item)
	h.rise(len(h.items) - 1)
}

// Pop takes the least item out, if there is any.
func (h *Heap[T]) Pop() (T, bool) {
	var none T
	last := len(h.items) - 1
	if last < 0 {
		return none, false
	}
	top := h.items[0]
	h.items[0], h.items[last] = h.items[last], none
	h.items = h.items[:last]
	h.sink(0)
	return top, true
}

// Take takes the least of those items out that fit, if there is any; the others stay.
func (h *Heap[T]) Take(fits func(T) bool) (T, bool) {
	var others []T
	item, found := h.Pop()
	for found && !fits(item) {
		others = append(others, item)
		item, found = h.Pop()
	}
	for _, other := range others {
		h.Push(other)
	}
	return item, found
}

func (h *Heap[T]) rise(i int) {
	for parent := (i - 1) / 2; i > 0 && h.less(h.items[i], h.items[parent]); parent = (i - 1) / 2 {
		h.swap(i, parent)
		i = parent
	}
}

func (h *Heap[T]) sink(i int) {
	for least := h.leastFrom(i); least != i; least = h.leastFrom(i) {
		h.swap(i, least)
		i = least
	}
}

// leastFrom is the place of the least among the item number i and its children.
func (h *Heap[T]) leastFrom(i int) int {
	least := i
	for child := 2*i + 1; child <= 2*i+2 && child < len(h.items); child++ {
		if h.less(h.items[child], h.items[least]) {
			least = child
		}
	}
	return least
}

func (h *Heap[T]) swap(i, j int) {
	h.items[i], h.items[j] = h.items[j], h.items[i]
}
