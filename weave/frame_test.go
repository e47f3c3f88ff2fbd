package weave_test

import (
	"strconv"
	"testing"

	"weave/api"
	"weave/weave"
)

func TestExamples(t *testing.T) {
	b := api.Batch{Origin: 1, Seq: 2, Time: 5, Clock: []int{3, 1}, Effects: []api.Effect{{Op: api.Add, Object: 4, Value: -2}}}
	want := sealed(unhex("00 11 01 02 05 02 03 01 01 01 04 ff fe"))
	if s, e := weave.Encode(b); s != want || e != api.OK {
		t.Errorf("P3: Encode = %x, %d, want %x", s, e, want)
	}
	if got, e := weave.Decode(want); !same(got, b) || e != api.OK {
		t.Errorf("P4: Decode = %v, %d, want %v", got, e, b)
	}
	b.Clock[1] = 2
	if s, e := weave.Encode(b); s != "" || e != api.ErrBatch {
		t.Errorf("P3: Encode = %x, %d, want none and ErrBatch", s, e)
	}
}

func TestBytesOfEveryOperation(t *testing.T) {
	head := "01 05 09 03 07 04 00 "
	for _, c := range []struct {
		bytes   string
		effects []api.Effect
	}{
		{"01 01 00 00 05", []api.Effect{{Op: api.Add, Value: 5}}},
		{"01 01 04 03 e8", []api.Effect{{Op: api.Add, Object: 4, Value: 1000}}},
		{"01 01 04 fc 18", []api.Effect{{Op: api.Add, Object: 4, Value: -1000}}},
		{"01 02 05 00 ff", []api.Effect{{Op: api.Insert, Object: 5, Value: 255}}},
		{"01 03 01 00 00 02 00 07 04 01 04 02", []api.Effect{{Op: api.Remove, Object: 1, Dots: dots(0, 7, 4, 1, 4, 2)}}},
		{"01 04 02 00 80 00", []api.Effect{{Op: api.Write, Object: 2, Value: 128}}},
		{"01 04 06 00 01 01 00 03 02", []api.Effect{{Op: api.Write, Object: 6, Value: 1, Dots: dots(0, 3, 2)}}},
		{"01 05 03 00 41 00 00 00", []api.Effect{{Op: api.Put, Object: 3, Value: 65}}},
		{"01 05 07 00 00 00 06 03", []api.Effect{{Op: api.Put, Object: 7, Ref: dot(0, 6, 3)}}},
		{"01 06 03 00 00 01 01 00", []api.Effect{{Op: api.Erase, Object: 3, Ref: dot(1, 1, 0)}}},
		{"02 05 03 00 41 00 00 00 06 03 00 00 01 05 00", []api.Effect{{Op: api.Put, Object: 3, Value: 65}, {Op: api.Erase, Object: 3, Ref: dot(1, 5, 0)}}},
	} {
		want := framed(unhex(head + c.bytes))
		if s, e := weave.Encode(batchOf(c.effects...)); s != want || e != api.OK {
			t.Errorf("P3: Encode(%v) = %x, %d, want %x", c.effects, s, e, want)
		}
		if b, e := weave.Decode(want); !same(b, batchOf(c.effects...)) || e != api.OK {
			t.Errorf("P4: Decode(%x) = %v, %d, want %v", want, b, e, c.effects)
		}
	}
}

// The greatest frame has a length that takes both bytes.
func TestGreatestFrame(t *testing.T) {
	b := api.Batch{Origin: 3, Seq: 30, Time: 200, Clock: []int{30, 30, 30, 29}}
	for range 5 {
		b.Effects = append(b.Effects, api.Effect{Op: api.Write, Object: 6, Value: 255, Dots: coveredDots(150)})
	}
	accept(t, "the greatest frame", b)
	if s, _ := weave.Encode(b); len(s) != 2+8+1+5*(4+1+450)+4 || s[:2] != "\x08\xf2" {
		t.Errorf("P3: the greatest frame has %d bytes and begins with %x", len(s), s[:min(len(s), 2)])
	}
}

func TestSamples(t *testing.T) {
	for i, b := range samples() {
		accept(t, "sample "+strconv.Itoa(i), b)
	}
}

// spoil gives each the bytes of s with one of them changed.
func spoil(s string, each func(x []byte)) {
	for at := range s {
		for mask := 1; mask < 256; mask++ {
			x := []byte(s)
			x[at] ^= byte(mask)
			each(x)
		}
	}
}

func TestSpoiltBytes(t *testing.T) {
	for _, b := range samples() {
		s, _ := frameOf(b)
		spoil(s, func(x []byte) { refuseBytes(t, "a byte changed", string(x)) })
		for n := range s {
			refuseBytes(t, "cut behind", s[:n])
			refuseBytes(t, "cut ahead", s[n+1:])
		}
		for c := range 256 {
			refuseBytes(t, "a byte behind", s+string([]byte{byte(c)}))
			refuseBytes(t, "a byte ahead", string([]byte{byte(c)})+s)
		}
		refuseBytes(t, "twice", s+s)
	}
}

// whole: bytes that Decode takes are the frame of what it answers, and no others.
func whole(t *testing.T, s string) {
	t.Helper()
	b, e := weave.Decode(s)
	if e != api.OK {
		refuseBytes(t, "content changed", s)
		return
	}
	if again, e := weave.Encode(b); again != s || e != api.OK {
		t.Errorf("P4: Decode(%x) = %v, of which the frame is %x, %d", s, b, again, e)
	}
}

func TestRightSumOverChangedContent(t *testing.T) {
	for _, b := range samples() {
		s, _ := frameOf(b)
		content := s[2 : len(s)-4]
		spoil(content, func(x []byte) { whole(t, framed(string(x))) })
		for i := range content {
			refuseBytes(t, "content cut", framed(content[:i]))
			whole(t, framed(content[:i]+content[i+1:]))
			for c := range 256 {
				whole(t, framed(content[:i]+string([]byte{byte(c)})+content[i:]))
			}
		}
		refuseBytes(t, "content lengthened", framed(content+"\x00"))
		refuseBytes(t, "content lengthened by an effect", framed(content+"\x01\x00\x00\x01"))
	}
}

func TestWrongContents(t *testing.T) {
	for _, s := range []string{
		"",
		"01",
		"01 02 05 02 03 01",
		"01 02 05 02 03 01 00",
		"01 02 05 02 03 01 02 01 04 ff fe",
		"01 02 05 00 01 01 04 ff fe",
		"01 02 05 01 03 01 01 04 ff fe",
		"01 02 05 05 03 01 00 00 00 01 01 04 ff fe",
		"01 02 05 ff",
		"01 02 05 02 03 01 ff",
		"01 02 05 02 03 01 01 00 00 00 00",
		"01 02 05 02 03 01 01 07 03 00 00",
		"01 02 05 02 03 01 01 ff 03 00 00",
		"01 02 05 02 03 01 01 01 04 80 00",
		"01 02 05 02 03 01 01 01 04 7f ff",
		"01 02 05 02 03 01 01 02 01 ff ff",
		"01 02 05 02 03 01 01 02 01 01 00",
		"01 02 05 02 03 01 01 03 01 00 00 00",
		"01 02 05 02 03 01 01 03 01 00 00 ff",
		"01 02 05 02 03 01 01 03 01 00 00 02 00 01 00",
		"01 02 05 02 03 01 01 03 01 00 00 01 00 01",
		"01 02 05 02 03 01 01 05 03 00 01",
		"01 02 05 02 03 01 01 05 03 00 01 00 00",
		"01 02 05 02 03 01 01 06 03 00 00 00 00 00",
	} {
		refuseBytes(t, "content "+s, framed(unhex(s)))
	}
}

func TestWrongLengths(t *testing.T) {
	s, _ := frameOf(samples()[0])
	content := s[2 : len(s)-4]
	for n := range 1 << 16 {
		if n != len(s) {
			refuseBytes(t, "length "+strconv.Itoa(n), sealed(string([]byte{byte(n >> 8), byte(n)})+content))
		}
	}
	long := make([]byte, 1<<16)
	refuseBytes(t, "65536 bytes behind the frame", s+string(long))
	refuseBytes(t, "65536 bytes behind the content", sealed(s[:2]+content+string(long)))
	refuseBytes(t, "65535 bytes", framed(content+string(long[:65535-len(s)])))
}

func TestWrongOrderAndSums(t *testing.T) {
	s, _ := frameOf(samples()[0])
	n := len(s)
	refuseBytes(t, "least byte of the length first", sealed(s[1:2]+s[:1]+s[2:n-4]))
	refuseBytes(t, "least byte of the sum first", s[:n-4]+s[n-1:]+s[n-2:n-1]+s[n-3:n-2]+s[n-4:n-3])
	refuseBytes(t, "the sum of the content alone", s[:2]+sealed(s[2:n-4]))
	refuseBytes(t, "no sum", s[:n-4]+"\x00\x00\x00\x00")
	refuseBytes(t, "another frame's sum", s[:n-4]+sealed("x")[1:])
}

func TestShortStrings(t *testing.T) {
	refuseBytes(t, "nothing", "")
	for a := range 256 {
		refuseBytes(t, "a byte", string([]byte{byte(a)}))
		for b := range 256 {
			refuseBytes(t, "two bytes", string([]byte{byte(a), byte(b)}))
		}
	}
	for n := range 20 {
		refuseBytes(t, "zeros", string(make([]byte, n)))
		refuseBytes(t, "zeros with length and sum", framed(string(make([]byte, n))))
	}
}
