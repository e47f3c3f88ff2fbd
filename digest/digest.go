// Package digest turns a replica's clock into the bytes that ask for what is behind it, and back.
package digest

import (
	"errors"

	"weave/sum"
)

// What can be wrong with the bytes of a digest.
var (
	ErrLength = errors.New("a digest of another length")
	ErrSum    = errors.New("a digest whose sum is not right")
)

// Encode is the digest of a clock.
func Encode(clock []int) string {
	var numbers []byte
	for _, n := range clock {
		numbers = append(numbers, byte(n))
	}
	return sum.Seal(string(numbers))
}

// Decode is the clock of so many replicas that s is the digest of.
func Decode(s string, replicas int) ([]int, error) {
	if len(s) != replicas+sum.Size {
		return nil, ErrLength
	}
	numbers, ok := sum.Open(s)
	if !ok {
		return nil, ErrSum
	}
	var clock []int
	for _, n := range []byte(numbers) {
		clock = append(clock, int(n))
	}
	return clock, nil
}
