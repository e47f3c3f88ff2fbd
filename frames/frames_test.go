package frames

import (
	"errors"
	"testing"

	"weave/api"
	"weave/batch"
	"weave/sum"
)

const content = "\x01\x02\x05\x02\x03\x01\x01\x01\x04\xff\xfe"

func framed(content string) string {
	return sum.Seal("\x00" + string([]byte{byte(len(content) + 6)}) + content)
}

func TestEncodeAsksForBatch(t *testing.T) {
	b := api.Batch{Origin: 1, Seq: 2, Time: 5, Clock: []int{3, 1}, Effects: []api.Effect{{Op: api.Add, Object: 4, Value: -2}}}
	if s, err := Encode(b); s != framed(content) || err != nil {
		t.Errorf("P3: Encode = %x, %v", s, err)
	}
	b.Clock[1] = 2
	if s, err := Encode(b); s != "" || !errors.Is(err, batch.ErrBatch) || errors.Is(err, ErrFrame) {
		t.Errorf("P3: Encode = %x, %v", s, err)
	}
}

// Each fault is ErrFrame, and its own reason, and says how far the reading had come.
func TestDecodeTellsTheReason(t *testing.T) {
	right := framed(content)
	for _, c := range []struct {
		name, bytes string
		at          int
		reason      error
	}{
		{"nothing", "", 0, ErrCut},
		{"a byte", "\x00", 1, ErrCut},
		{"cut", right[:16], 2, ErrLength},
		{"lengthened", right + "\x00", 2, ErrLength},
		{"the length alone", "\x00\x02", 2, ErrSum},
		{"spoilt", right[:16] + "!", 2, ErrSum},
		{"no content", framed(""), 2, ErrCut},
		{"content cut", framed(content[:10]), 12, ErrCut},
		{"content lengthened", framed(content + "\x00"), 13, ErrRest},
		{"no operation", framed(content[:7] + "\x07\x04\xff\xfe"), 13, batch.ErrBatch},
		{"no batch", framed(content[:8] + "\x05\xff\xfe"), 13, batch.ErrBatch},
	} {
		_, err := Decode(c.bytes)
		if !errors.Is(err, ErrFrame) || !errors.Is(err, c.reason) {
			t.Errorf("P4, %s: %v, want ErrFrame over %v", c.name, err, c.reason)
		}
		var fault Fault
		if !errors.As(err, &fault) || fault.At != c.at {
			t.Errorf("P4, %s: %v, want it at %d", c.name, err, c.at)
		}
	}
	if _, err := Decode(right); err != nil {
		t.Errorf("P4: a frame is refused: %v", err)
	}
}

func TestFaultText(t *testing.T) {
	_, err := Decode(framed(content[:8] + "\x05\xff\xfe"))
	if err == nil || err.Error() != "no frame: byte 13: effect 0: Object: no batch" {
		t.Errorf("P4: %v", err)
	}
}
