package sum

import (
	"hash/crc32"
	"strings"
	"testing"
)

func TestOf(t *testing.T) {
	if n := Of("123456789"); n != 0xCBF43926 {
		t.Errorf("the sum of 123456789 is %X, want CBF43926", n)
	}
	s := strings.Repeat("\x00\xffweave\x80\x01", 40)
	for n := range s {
		if got, want := Of(s[:n]), crc32.ChecksumIEEE([]byte(s[:n])); got != want {
			t.Errorf("the sum of the first %d bytes is %X, want %X", n, got, want)
		}
	}
}

func TestSealAndOpen(t *testing.T) {
	if s := Seal("123456789"); s != "123456789\xcb\xf4\x39\x26" {
		t.Errorf("sealed: %x", s)
	}
	for _, s := range []string{"", "a", "weave"} {
		if got, ok := Open(Seal(s)); got != s || !ok {
			t.Errorf("Open(Seal(%q)) = %q, %v", s, got, ok)
		}
	}
}

func TestOpenRefuses(t *testing.T) {
	whole := Seal("weave")
	for n := range whole {
		spoilt := []byte(whole)
		spoilt[n] ^= 1
		for _, s := range []string{whole[:n], whole[n+1:], string(spoilt)} {
			if got, ok := Open(s); got != "" || ok {
				t.Errorf("Open(%x) = %q, %v", s, got, ok)
			}
		}
	}
}
