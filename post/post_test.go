package post

import (
	"testing"

	"weave/api"
)

// The numbers that are counted here are those that callers know.
func TestCountsAsAPI(t *testing.T) {
	if [...]Kind{Frame, Digest} != [...]Kind{api.Frame, api.Digest} {
		t.Error("kinds of messages are counted otherwise than by api")
	}
}

// Each message has a place, and no place is taken without a message.
func TestPlaces(t *testing.T) {
	p := New()
	same := func(want int) {
		t.Helper()
		if len(p.room) != want || len(p.Messages()) != want || cap(p.room) != api.MaxMessages {
			t.Errorf("P11: %d places of %d are taken by %d messages, want %d", len(p.room), cap(p.room), len(p.Messages()), want)
		}
	}
	for i := range api.MaxMessages + 2 {
		same(min(i, api.MaxMessages))
		p.Send(Digest, 0, 1, "x")
	}
	p.Twice(0)
	same(api.MaxMessages)
	p.Take(7)
	same(api.MaxMessages - 1)
	p.Take(-1)
	p.Take(api.MaxMessages - 1)
	same(api.MaxMessages - 1)
	p.Twice(0)
	p.Twice(0)
	same(api.MaxMessages)
	for range api.MaxMessages {
		p.Take(0)
	}
	p.Take(0)
	same(0)
}
