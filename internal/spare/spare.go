// Package spare helps tests to find a function that changes an argument or the memory behind it, or that returns memory which is not its own.
package spare

import (
	"bytes"
	"slices"
)

// fill is what the memory behind a byte string consists of, and room is how much of it there is.
const (
	fill = 0x55
	room = 16
)

// Tester is what Check needs of a *testing.T: the program may not import package testing.
type Tester interface {
	Helper()
	Errorf(format string, args ...any)
}

// With returns the bytes b in memory that goes on behind their end.
func With(b ...byte) []byte {
	out := slices.Concat(b, bytes.Repeat([]byte{fill}, room))
	return out[:len(b)]
}

// Check fails if b, or the memory behind it, is not as With(want...) made it.
func Check(t Tester, b []byte, want ...byte) {
	t.Helper()
	all := b[:cap(b)]
	made := With(want...)
	if len(b) != len(want) || !bytes.Equal(all[:len(b)+room], made[:len(made)+room]) {
		t.Errorf("the argument, or the memory behind it, was changed: % x", all)
	}
}

// Flip inverts every byte of b and of the memory behind it.
func Flip(b []byte) {
	all := b[:cap(b)]
	for i := range all {
		all[i] ^= 0xff
	}
}
