package batch

import (
	"testing"

	"weave/api"
)

// The numbers that are counted here are those that callers know.
func TestCountsAsAPI(t *testing.T) {
	if [...]Kind{Counter, Set, Register, List} != [...]Kind{api.Counter, api.Set, api.Register, api.List} {
		t.Error("kinds are counted otherwise than by api")
	}
	if [...]Op{Add, Insert, Remove, Write, Put, Erase} != [...]Op{api.Add, api.Insert, api.Remove, api.Write, api.Put, api.Erase} {
		t.Error("operations are counted otherwise than by api")
	}
}

func TestKindOf(t *testing.T) {
	for object, want := range []Kind{Counter, Set, Register, List, Counter, Set, Register, List} {
		if got := KindOf(object); got != want {
			t.Errorf("KindOf(%d) = %d, want %d", object, got, want)
		}
	}
}
