package spare_test

import (
	"bytes"
	"testing"

	"multihop/internal/spare"
)

// counter counts the failures that a check reports.
type counter struct{ failures int }

func (c *counter) Helper()               {}
func (c *counter) Errorf(string, ...any) { c.failures++ }

// failures returns how often Check reports b.
func failures(b []byte, want ...byte) int {
	var c counter
	spare.Check(&c, b, want...)
	return c.failures
}

func TestWith(t *testing.T) {
	for _, want := range [][]byte{nil, {7}, {1, 2, 3}} {
		b := spare.With(want...)
		if !bytes.Equal(b, want) || cap(b) < len(b)+16 || failures(b, want...) != 0 {
			t.Errorf("% x with % x behind it", b, b[len(b):cap(b)])
		}
	}
}

func TestCheckFindsChanges(t *testing.T) {
	for at := range 3 + 16 {
		b := spare.With(1, 2, 3)
		b[:cap(b)][at]++
		if failures(b, 1, 2, 3) != 1 {
			t.Errorf("the change at %d was not found", at)
		}
	}
	if failures(spare.With(1, 2), 1, 2, 3) != 1 || failures(spare.With(1, 2, 3), 1, 2) != 1 {
		t.Error("another length was not found")
	}
}

func TestFlip(t *testing.T) {
	b := spare.With(1, 0xff)
	spare.Flip(b)
	if !bytes.Equal(b[:4], []byte{0xfe, 0, 0xaa, 0xaa}) {
		t.Errorf("% x", b[:4])
	}
	spare.Flip(nil)
}
