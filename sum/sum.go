// Package sum has the sum of 32 bits that stands behind the bytes of frames and digests.
package sum

// Size is how many bytes a sum takes.
const Size = 4

// polynomial is 04C11DB7 turned round: the bits of each byte are turned too, so all goes from the least bit on.
const polynomial = 0xEDB88320

// Of is the sum of the bytes of s.
func Of(s string) uint32 {
	sum := ^uint32(0)
	for i := range len(s) {
		sum = divide(sum ^ uint32(s[i]))
	}
	return ^sum
}

// divide goes bit by bit: a table of 256 words would be the greater part of the program, and frames are short.
func divide(sum uint32) uint32 {
	for range 8 {
		odd := sum&1 == 1
		sum >>= 1
		if odd {
			sum ^= polynomial
		}
	}
	return sum
}

// Seal is s with its sum behind it.
func Seal(s string) string {
	n := Of(s)
	return s + string([]byte{byte(n >> 24), byte(n >> 16), byte(n >> 8), byte(n)})
}

// Open is what was sealed, and whether the sum behind it is right.
func Open(sealed string) (string, bool) {
	if len(sealed) < Size {
		return "", false
	}
	s := sealed[:len(sealed)-Size]
	if Seal(s) != sealed {
		return "", false
	}
	return s, true
}
