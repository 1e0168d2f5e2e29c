package octets_test

import (
	"bytes"
	"math"
	"slices"
	"strings"
	"testing"

	"multihop/api"
	"multihop/internal/spare"
	"multihop/octets"
)

// oddInts are numbers at which a sum with another one may overflow.
var oddInts = []int{math.MinInt, math.MinInt + 1, -65, -9, -1, 65, math.MaxInt - 63, math.MaxInt - 1, math.MaxInt}

// 1.1
func TestAppendWritesTheMostSignificantByteFirst(t *testing.T) {
	const v = 0x0102030405060708
	all := []byte{1, 2, 3, 4, 5, 6, 7, 8}
	for n := 0; n <= 8; n++ {
		want := append([]byte{0xaa, 0xbb}, all[8-n:]...)
		if got := octets.Append([]byte{0xaa, 0xbb}, v, n); !bytes.Equal(got, want) {
			t.Errorf("%d bytes: % x, not % x", n, got, want)
		}
		if got := octets.Append(nil, v, n); !bytes.Equal(got, all[8-n:]) {
			t.Errorf("%d bytes behind nil: % x", n, got)
		}
	}
	if got := octets.Append([]byte{}, 1, 4); !bytes.Equal(got, []byte{0, 0, 0, 1}) {
		t.Errorf("leading zeros: % x", got)
	}
	if got := octets.Append([]byte{1}, 0x203, 2); !bytes.Equal(got, []byte{1, 2, 3}) {
		t.Errorf("the chapter's example: % x", got)
	}
}

// 1.1
func TestAppendOfAnotherNumberOfBytes(t *testing.T) {
	for _, n := range append([]int{9, 16, 64}, oddInts...) {
		if got := octets.Append([]byte{1, 2}, math.MaxUint64, n); !bytes.Equal(got, []byte{1, 2}) {
			t.Errorf("%d bytes: % x", n, got)
		}
		if got := octets.Append(nil, math.MaxUint64, n); len(got) != 0 {
			t.Errorf("%d bytes behind nil: % x", n, got)
		}
	}
}

// 1.1 with R3
func TestAppendHasMemoryOfItsOwn(t *testing.T) {
	for _, n := range []int{-1, 0, 1, 8, 9} {
		b := spare.With(1, 2, 3)
		first := octets.Append(b, 7, n)
		second := octets.Append(b, 9, n)
		want := slices.Clone(second)
		spare.Check(t, b, 1, 2, 3)
		spare.Flip(first)
		spare.Check(t, b, 1, 2, 3)
		if !bytes.Equal(second, want) {
			t.Errorf("%d bytes: two results share memory", n)
		}
	}
}

// 1.2
func TestUint(t *testing.T) {
	b := []byte{0x80, 0, 3, 0x84, 5, 6, 7, 0xff, 9, 0}
	for at := range b {
		var want uint64
		for n := 1; n <= 8 && at+n <= len(b); n++ {
			want = want*256 + uint64(b[at+n-1])
			if got, ok := octets.Uint(b, at, n); !ok || got != want {
				t.Errorf("Uint(%d, %d): %#x %t, not %#x", at, n, got, ok, want)
			}
		}
	}
	if got, ok := octets.Uint([]byte{1, 2, 3}, 1, 2); !ok || got != 0x203 {
		t.Errorf("the chapter's example: %#x %t", got, ok)
	}
	if got, ok := octets.Uint(bytes.Repeat([]byte{0xff}, 8), 0, 8); !ok || got != math.MaxUint64 {
		t.Errorf("the greatest number: %#x %t", got, ok)
	}
}

// 1.2
func TestUintOfOtherBytes(t *testing.T) {
	refuse := func(b []byte, at, n int) {
		t.Helper()
		if got, ok := octets.Uint(b, at, n); ok || got != 0 {
			t.Errorf("Uint(% x, %d, %d): %#x %t", b, at, n, got, ok)
		}
	}
	// There is memory behind the bytes, which are not those of b.
	b := spare.With(1, 2, 3, 4, 5, 6, 7, 8, 9, 10)
	for _, n := range append([]int{0, 9, 10}, oddInts...) {
		for _, at := range append([]int{0, 1, 9, 10}, oddInts...) {
			refuse(b, at, n)
		}
	}
	for n := 1; n <= 8; n++ {
		for _, at := range oddInts {
			refuse(b, at, n)
		}
		refuse(b, len(b)-n+1, n)
		refuse(b, len(b), n)
		refuse(b, len(b)+1, n)
		refuse(nil, 0, n)
		refuse([]byte{}, 0, n)
	}
	spare.Check(t, b, 1, 2, 3, 4, 5, 6, 7, 8, 9, 10)
}

// validBits are bit strings that are valid, otherBits some that are not.
func validBits() []api.BitString {
	return []api.BitString{
		{}, {Bytes: []byte{}}, {Bytes: []byte{0}, Len: 1}, {Bytes: []byte{0x80}, Len: 1}, {Bytes: []byte{0xfe}, Len: 7}, {Bytes: []byte{0xff}, Len: 8},
		{Bytes: []byte{0xff, 0x80}, Len: 9}, {Bytes: []byte{0, 0xfe}, Len: 15}, {Bytes: []byte{1, 0xff}, Len: 16}, {Bytes: spare.With(0xa5, 0xc0), Len: 11},
	}
}

func otherBits() []api.BitString {
	out := []api.BitString{
		{Len: 1}, {Bytes: []byte{}, Len: 8}, {Bytes: []byte{0}}, {Bytes: []byte{0, 0}, Len: 8}, {Bytes: []byte{0, 0, 0}, Len: 16}, {Bytes: []byte{0}, Len: 9},
		{Bytes: []byte{0, 0}, Len: 1}, {Bytes: []byte{0xff, 0xff}, Len: 15}, {Bytes: []byte{0xff, 0xc0}, Len: 9},
	}
	for _, n := range oddInts {
		out = append(out, api.BitString{Len: n}, api.BitString{Bytes: []byte{0}, Len: n}, api.BitString{Bytes: []byte{0, 0}, Len: n})
	}
	return out
}

// 1.3
func TestValidBits(t *testing.T) {
	for _, s := range validBits() {
		if !octets.ValidBits(s) {
			t.Errorf("%v is valid", s)
		}
	}
	for _, s := range otherBits() {
		if octets.ValidBits(s) {
			t.Errorf("%v is not valid", s)
		}
	}
}

// 1.3: all bytes behind all beginnings, so that each bit behind the first Len is looked at.
func TestValidBitsLooksAtEachBitBehind(t *testing.T) {
	for used := 1; used <= 8; used++ {
		for last := range 256 {
			want := last%(1<<(8-used)) == 0
			if got := octets.ValidBits(api.BitString{Bytes: []byte{0xff, byte(last)}, Len: 8 + used}); got != want {
				t.Errorf("%#x with %d bits: %t", last, used, got)
			}
		}
	}
}

// digits returns the binary digits of s.
func digits(s api.BitString) string {
	var out strings.Builder
	for i := range s.Len {
		out.WriteByte('0' + s.Bytes[i/8]>>(7-i%8)&1)
	}
	return out.String()
}

// binary returns the n last binary digits of v.
func binary(v uint64, n int) string {
	out := make([]byte, n)
	for i := n - 1; i >= 0; i-- {
		out[i] = '0' + byte(v%2)
		v /= 2
	}
	return string(out)
}

// 1.4
func TestAppendBits(t *testing.T) {
	for _, s := range validBits() {
		for n := 0; n <= 64; n++ {
			for _, v := range []uint64{0, 1, 0x9e3779b97f4a7c15, 1 << 63, math.MaxUint64} {
				got, ok := octets.AppendBits(s, v, n)
				if !ok || !octets.ValidBits(got) || got.Len != s.Len+n || digits(got) != digits(s)+binary(v, n) {
					t.Fatalf("%v and %d bits of %#x: %v %t", s, n, v, got, ok)
				}
			}
		}
	}
	got, ok := octets.AppendBits(api.BitString{Bytes: []byte{0xa0}, Len: 3}, 3, 2)
	if !ok || got.Len != 5 || !bytes.Equal(got.Bytes, []byte{0xb8}) {
		t.Errorf("the chapter's example: %v %t", got, ok)
	}
}

// 1.4
func TestAppendBitsOfOthers(t *testing.T) {
	refuse := func(s api.BitString, n int) {
		t.Helper()
		if got, ok := octets.AppendBits(s, 1, n); ok || got.Len != 0 || len(got.Bytes) != 0 {
			t.Errorf("%v and %d bits: %v %t", s, n, got, ok)
		}
	}
	for _, s := range otherBits() {
		for _, n := range []int{0, 1, 8, 64} {
			refuse(s, n)
		}
	}
	for _, s := range append(validBits(), otherBits()...) {
		for _, n := range oddInts {
			refuse(s, n)
		}
	}
}

// 1.4 with R3
func TestAppendBitsHasMemoryOfItsOwn(t *testing.T) {
	for _, n := range []int{0, 1, 5, 6, 64} {
		s := api.BitString{Bytes: spare.With(0xff, 0xc0), Len: 10}
		first, _ := octets.AppendBits(s, math.MaxUint64, n)
		second, _ := octets.AppendBits(s, 0, n)
		want := slices.Clone(second.Bytes)
		spare.Check(t, s.Bytes, 0xff, 0xc0)
		spare.Flip(first.Bytes)
		spare.Check(t, s.Bytes, 0xff, 0xc0)
		if !bytes.Equal(second.Bytes, want) {
			t.Errorf("%d bits: two results share memory", n)
		}
	}
}

// 1.5
func TestBits(t *testing.T) {
	s := api.BitString{Bytes: spare.With(0x9e, 0x37, 0x79, 0xb9, 0x7f, 0x4a, 0x7c, 0x15, 0xf3, 0x9c, 0x80), Len: 81}
	all := digits(s)
	for at := range s.Len {
		for n := 1; n <= 64 && at+n <= s.Len; n++ {
			got, ok := octets.Bits(s, at, n)
			if !ok || binary(got, 64) != strings.Repeat("0", 64-n)+all[at:at+n] {
				t.Errorf("Bits(%d, %d): %#x %t", at, n, got, ok)
			}
		}
	}
	if got, ok := octets.Bits(api.BitString{Bytes: bytes.Repeat([]byte{0xff}, 8), Len: 64}, 0, 64); !ok || got != math.MaxUint64 {
		t.Errorf("the greatest number: %#x %t", got, ok)
	}
}

// 1.5
func TestBitsOfOthers(t *testing.T) {
	refuse := func(s api.BitString, at, n int) {
		t.Helper()
		if got, ok := octets.Bits(s, at, n); ok || got != 0 {
			t.Errorf("%v, Bits(%d, %d): %#x %t", s, at, n, got, ok)
		}
	}
	for _, s := range otherBits() {
		refuse(s, 0, 1)
		refuse(s, 0, 8)
	}
	for _, s := range append(validBits(), api.BitString{Bytes: make([]byte, 10), Len: 77}) {
		for _, n := range append([]int{0}, oddInts...) {
			for _, at := range append([]int{0, 1, s.Len}, oddInts...) {
				refuse(s, at, n)
			}
		}
		for n := 1; n <= 64; n++ {
			for _, at := range oddInts {
				if at != 65 || s.Len < 65+n {
					refuse(s, at, n)
				}
			}
			// The bits behind the first Len are in the bytes of s, but not bits of s.
			refuse(s, s.Len-n+1, n)
			refuse(s, s.Len, n)
			refuse(s, s.Len+1, n)
		}
	}
}

// 1.6
func TestHex(t *testing.T) {
	for _, x := range []struct {
		b    []byte
		want string
	}{
		{nil, ""}, {[]byte{}, ""}, {[]byte{0}, "00"}, {[]byte{0x0f}, "0f"}, {[]byte{0xf0}, "f0"}, {[]byte{0x12, 0x34, 0x56, 0x78, 0x9a, 0xbc, 0xde, 0xff}, "123456789abcdeff"},
	} {
		if got := octets.Hex(x.b); got != x.want {
			t.Errorf("Hex(% x): %q", x.b, got)
		}
		if got, ok := octets.Unhex(x.want); !ok || !bytes.Equal(got, x.b) {
			t.Errorf("Unhex(%q): % x %t", x.want, got, ok)
		}
	}
	b := spare.With(1, 2)
	octets.Hex(b)
	spare.Check(t, b, 1, 2)
}

// 1.6: all pairs of bytes, of which only those of two lower-case digits are the Hex of a byte.
func TestUnhexOfAllPairs(t *testing.T) {
	const known = "0123456789abcdef"
	for high := range 256 {
		for low := range 256 {
			s := string([]byte{byte(high), byte(low)})
			h, l := strings.IndexByte(known, byte(high)), strings.IndexByte(known, byte(low))
			got, ok := octets.Unhex(s)
			if ok != (h >= 0 && l >= 0) || ok && !bytes.Equal(got, []byte{byte(h*16 + l)}) || !ok && len(got) != 0 {
				t.Errorf("Unhex(%q): % x %t", s, got, ok)
			}
		}
	}
}

// 1.6
func TestUnhexOfOtherTexts(t *testing.T) {
	for _, s := range []string{"0", "000", "00000", "0F", "0x00", "00 00 ", " 000", "+001", "000g", "g000", "00\n0", "00ä", "ä00", "0é0", "\xff\xfe", "00\xc3", "0\x00", "٠٠", "００", "😀", "a😀b", "00_0"} {
		if got, ok := octets.Unhex(s); ok || len(got) != 0 {
			t.Errorf("Unhex(%q): % x %t", s, got, ok)
		}
	}
}

// 1.7
func TestWhatWasAppendedIsReadBack(t *testing.T) {
	var b []byte
	var s api.BitString
	v := uint64(1)
	for range 300 {
		v = v*6364136223846793005 + 1442695040888963407
		n, bits := 1+int(v>>60)%8, 1+int(v>>50)%64
		at, from, before := len(b), s.Len, digits(s)
		b = octets.Append(b, v, n)
		s, _ = octets.AppendBits(s, v, bits)
		if got, ok := octets.Uint(b, at, n); !ok || got != v&(math.MaxUint64>>(64-8*n)) {
			t.Fatalf("%d bytes of %#x: %#x %t", n, v, got, ok)
		}
		if got, ok := octets.Bits(s, from, bits); !ok || got != v&(math.MaxUint64>>(64-bits)) {
			t.Fatalf("%d bits of %#x: %#x %t", bits, v, got, ok)
		}
		if !strings.HasPrefix(digits(s), before) {
			t.Fatalf("%d bits of %#x changed the bits before", bits, v)
		}
	}
	got, ok := octets.Unhex(octets.Hex(b))
	if !ok || !bytes.Equal(got, b) {
		t.Errorf("Unhex does not undo Hex: % x %t", got, ok)
	}
	if again := octets.Hex(got); again != octets.Hex(b) {
		t.Errorf("Hex does not undo Unhex: %q", again)
	}
}
