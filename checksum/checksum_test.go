package checksum_test

import (
	"bytes"
	"slices"
	"testing"

	"multihop/checksum"
	"multihop/internal/spare"
)

// mixed returns n bytes without an evident order; another seed gives other ones.
func mixed(n, seed int) []byte {
	out := make([]byte, n)
	x := uint64(seed)*0x9e3779b97f4a7c15 + 1
	for i := range out {
		x ^= x << 13
		x ^= x >> 7
		x ^= x << 17
		out[i] = byte(x >> 32)
	}
	return out
}

// foldedSum adds the words of b one at a time and takes every carry around at once.
func foldedSum(b []byte) uint16 {
	if len(b)%2 == 1 {
		b = append(slices.Clone(b), 0)
	}
	sum := 0
	for len(b) > 0 {
		sum += int(b[0])*256 + int(b[1])
		if sum > 65535 {
			sum -= 65535
		}
		b = b[2:]
	}
	return uint16(sum)
}

// remainder divides the bits of b, the least significant one of each byte first and 16 bits 0 behind them, by x^16 + x^12 + x^5 + 1.
func remainder(b []byte) uint16 {
	var bits []int
	for _, x := range append(slices.Clone(b), 0, 0) {
		for i := range 8 {
			bits = append(bits, int(x>>i&1))
		}
	}
	for i := range len(bits) - 16 {
		if bits[i] == 1 {
			for _, at := range []int{0, 4, 11, 16} {
				bits[i+at] ^= 1
			}
		}
	}
	var rest uint16
	for i, bit := range bits[len(bits)-16:] {
		rest |= uint16(bit) << i
	}
	return rest
}

// 2.1
func TestSum(t *testing.T) {
	for _, x := range []struct {
		b    []byte
		want uint16
	}{
		{nil, 0},
		{[]byte{}, 0},
		{[]byte{0}, 0},
		{[]byte{1}, 0x0100},
		{[]byte{0xff}, 0xff00},
		{[]byte{0, 1}, 1},
		{[]byte{1, 2}, 0x0102},
		{[]byte{1, 2, 3}, 0x0402},
		{[]byte{0xff, 0xff}, 0xffff},
		{[]byte{0xff, 0xff, 0, 0}, 0xffff},
		{[]byte{0xff, 0xfe, 0, 1}, 0xffff},
		{[]byte{0xff, 0xff, 0, 1}, 1},
		{[]byte{0xff, 0xff, 0xff, 0xff}, 0xffff},
		{[]byte{0x80, 0, 0x80, 0}, 1},
		{[]byte{0xff, 0xff, 0xff}, 0xff00},
	} {
		if got := checksum.Sum(x.b); got != x.want {
			t.Errorf("% x: %#x, not %#x", x.b, got, x.want)
		}
	}
}

// 2.1
func TestSumOfBytesOfAnyNumber(t *testing.T) {
	for n := range 200 {
		for seed := range 4 {
			b := mixed(n, seed)
			if got, want := checksum.Sum(b), foldedSum(b); got != want {
				t.Errorf("% x: %#x, not %#x", b, got, want)
			}
		}
	}
}

// 2.1: sums that a number of 16 or of 32 bits cannot hold, and that one fold leaves above 65535
func TestSumFoldsUntilItFits(t *testing.T) {
	for _, n := range []int{4, 200_002, 131_074, 262_143, 400_000} {
		for _, word := range [][]byte{{0xff, 0xff}, {0xff, 0xfe}, {0x80, 0}, {0, 1, 0xff}} {
			b := bytes.Repeat(word, n)[:n]
			if got, want := checksum.Sum(b), foldedSum(b); got != want {
				t.Errorf("%d bytes of % x: %#x, not %#x", n, word, got, want)
			}
		}
	}
	if got := checksum.Sum([]byte{0xff, 0xff, 0xff, 0xff, 0, 1}); got != 1 {
		t.Errorf("a sum of 0x1ffff: %#x", got)
	}
}

// 2.2
func TestInternet(t *testing.T) {
	for _, x := range []struct {
		parts [][]byte
		want  uint16
	}{
		{nil, 0xffff},
		{[][]byte{nil}, 0xffff},
		{[][]byte{nil, {}, nil}, 0xffff},
		{[][]byte{{1}}, 0xfeff},
		{[][]byte{{0xff, 0xff}}, 0},
		{[][]byte{{1}, {2, 3}}, 0xfbfd},
		{[][]byte{{1, 2}, {3}}, 0xfbfd},
		{[][]byte{{1}, {}, {2}, nil, {3}}, 0xfbfd},
		{[][]byte{{1}, {2}}, 0xfefd},
		{[][]byte{{0xff}, {0xff, 0}, {1}}, 0xfffe},
	} {
		if got := checksum.Internet(x.parts...); got != x.want {
			t.Errorf("% x: %#x, not %#x", x.parts, got, x.want)
		}
	}
}

// 2.2
func TestInternetOfPartsOfAnyLengths(t *testing.T) {
	b := mixed(23, 5)
	want := 65535 - foldedSum(b)
	for i := range len(b) + 1 {
		for j := i; j <= len(b); j++ {
			if got := checksum.Internet(b[:i], b[i:j], b[j:]); got != want {
				t.Errorf("cut at %d and %d: %#x, not %#x", i, j, got, want)
			}
		}
	}
	var single [][]byte
	for i := range b {
		single = append(single, b[i:i+1])
	}
	if got := checksum.Internet(single...); got != want {
		t.Errorf("byte by byte: %#x, not %#x", got, want)
	}
}

// edgeWords are words at which sums carry, or do not quite.
var edgeWords = []uint16{0, 1, 2, 0xff, 0x100, 0x7fff, 0x8000, 0x8001, 0xabcd, 0xfffd, 0xfffe, 0xffff}

// 2.3
func TestUpdate(t *testing.T) {
	for _, sum := range edgeWords {
		for _, old := range edgeWords {
			for _, next := range edgeWords {
				want := 65535 - (65535 - int(sum) + 65535 - int(old) + int(next))
				for want < 0 {
					want += 65535
				}
				if got := checksum.Update(sum, old, next); int(got) != want {
					t.Errorf("Update(%#x, %#x, %#x): %#x, not %#x", sum, old, next, got, want)
				}
			}
		}
	}
}

// 2.3: the folded sum of three words is 0 only if all of them are 0
func TestUpdateTellsZeroFrom65535(t *testing.T) {
	for _, x := range [][4]uint16{
		{0xffff, 0xffff, 0, 0xffff},
		{0, 0, 0, 0},
		{0xffff, 0, 0, 0},
		{0xffff, 0xffff, 0xffff, 0},
		{0, 0xffff, 0, 0},
		{0xfffe, 1, 0, 0},
		{0xfffe, 1, 1, 0xfffe},
	} {
		if got := checksum.Update(x[0], x[1], x[2]); got != x[3] {
			t.Errorf("Update(%#x, %#x, %#x): %#x, not %#x", x[0], x[1], x[2], got, x[3])
		}
	}
}

// 2.4
func TestCRC(t *testing.T) {
	for s, want := range map[string]uint16{
		"":           0,
		"\x00":       0,
		"\x00\x00":   0,
		"\x01":       0x1189,
		"\x80":       0x8408,
		"123456789":  0x2189,
		"\x01\x00":   remainder([]byte{1, 0}),
		"\x00\x01":   0x1189,
		"\xff\xff":   remainder([]byte{0xff, 0xff}),
		"a\x00b\xff": remainder([]byte("a\x00b\xff")),
	} {
		if got := checksum.CRC([]byte(s)); got != want {
			t.Errorf("%q: %#x, not %#x", s, got, want)
		}
	}
	if got := checksum.CRC(nil); got != 0 {
		t.Errorf("nil: %#x", got)
	}
}

// 2.4
func TestCRCIsARemainder(t *testing.T) {
	for x := range 256 {
		if got, want := checksum.CRC([]byte{byte(x)}), remainder([]byte{byte(x)}); got != want {
			t.Errorf("%#x: %#x, not %#x", x, got, want)
		}
	}
	for n := range 130 {
		b := mixed(n, n)
		if got, want := checksum.CRC(b), remainder(b); got != want {
			t.Errorf("%d bytes: %#x, not %#x", n, got, want)
		}
	}
}

// 2.4
func TestExtend(t *testing.T) {
	for _, crc := range []uint16{0, 1, 0x8408, 0xabcd, 0xffff} {
		if got := checksum.Extend(crc, nil); got != crc {
			t.Errorf("%#x with no bytes: %#x", crc, got)
		}
	}
	for _, x := range []struct {
		crc  uint16
		b    []byte
		want uint16
	}{
		{0x0100, []byte{0}, 1},
		{0xab01, []byte{1}, 0xab},
		{0x0001, []byte{0}, 0x1189},
		{0x0080, []byte{0}, 0x8408},
		{0xffff, []byte("123456789"), 0x6f91},
	} {
		if got := checksum.Extend(x.crc, x.b); got != x.want {
			t.Errorf("%#x with % x: %#x, not %#x", x.crc, x.b, got, x.want)
		}
	}
	b := mixed(31, 8)
	for i := range len(b) + 1 {
		if got, want := checksum.Extend(checksum.CRC(b[:i]), b[i:]), remainder(b); got != want {
			t.Errorf("continued at %d: %#x, not %#x", i, got, want)
		}
	}
}

// 2.5
func TestAppend(t *testing.T) {
	for _, x := range []struct{ b, want []byte }{
		{nil, []byte{0, 0}},
		{[]byte{}, []byte{0, 0}},
		{[]byte{0}, []byte{0, 0, 0}},
		{[]byte{1}, []byte{1, 0x89, 0x11}},
		{[]byte("123456789"), []byte("123456789\x89\x21")},
	} {
		if got := checksum.Append(x.b); !bytes.Equal(got, x.want) {
			t.Errorf("% x: % x, not % x", x.b, got, x.want)
		}
	}
}

// 2.5
func TestCheck(t *testing.T) {
	for _, x := range []struct {
		b    []byte
		want bool
	}{
		{nil, false},
		{[]byte{}, false},
		{[]byte{0}, false},
		{[]byte{0x89}, false},
		{[]byte{0, 0}, true},
		{[]byte{0, 1}, false},
		{[]byte{1, 0}, false},
		{[]byte{0, 0, 0}, true},
		{[]byte{1, 0x89, 0x11}, true},
		{[]byte{1, 0x11, 0x89}, false},
		{[]byte{1, 0x89, 0x10}, false},
		{[]byte{1, 0x88, 0x11}, false},
		{[]byte{2, 0x89, 0x11}, false},
		{[]byte{0, 1, 0x89, 0x11}, true},
		{[]byte{1, 0x89, 0x11, 1}, false},
	} {
		if got := checksum.Check(x.b); got != x.want {
			t.Errorf("% x: %v", x.b, got)
		}
	}
}

// 2.5: two bytes behind some others pass only if they are their remainder
func TestCheckOfAllLastBytes(t *testing.T) {
	for _, b := range [][]byte{nil, {1}, mixed(2, 1), mixed(7, 2)} {
		want := remainder(b)
		for crc := range 65536 {
			all := append(slices.Clone(b), byte(crc), byte(crc>>8))
			if got := checksum.Check(all); got != (crc == int(want)) {
				t.Errorf("% x: %v", all, got)
			}
		}
	}
}

// 2.6
func TestCheckAcceptsWhatAppendReturns(t *testing.T) {
	for n := range 200 {
		b := mixed(n, 3*n)
		if all := checksum.Append(b); !checksum.Check(all) || len(all) != n+2 || !bytes.Equal(all[:n], b) {
			t.Errorf("%d bytes: % x", n, all)
		}
	}
}

// invert returns b with the bits inverted that are 1 in pattern, its least significant bit at the bit from of b, and whether all of them are within b.
func invert(b []byte, pattern, from int) ([]byte, bool) {
	out := slices.Clone(b)
	for i := range 16 {
		if pattern>>i&1 == 0 {
			continue
		}
		at := from + i
		if at >= 8*len(b) {
			return nil, false
		}
		out[at/8] ^= 1 << (at % 8)
	}
	return out, true
}

// 2.6: every pattern of at most 16 bits that begins with an inverted one, wherever it begins
func TestCheckFindsBursts(t *testing.T) {
	for _, b := range [][]byte{nil, {0}, mixed(3, 1)} {
		whole := checksum.Append(b)
		for from := range 8 * len(whole) {
			for pattern := 1; pattern < 1<<16; pattern += 2 {
				bent, ok := invert(whole, pattern, from)
				if ok && checksum.Check(bent) {
					t.Errorf("% x: the pattern %#x from the bit %d on passes", whole, pattern, from)
				}
			}
		}
	}
}

// 2.6
func TestCheckFindsBurstsInLongData(t *testing.T) {
	whole := checksum.Append(mixed(125, 6))
	for from := range 8 * len(whole) {
		for _, pattern := range []int{1, 3, 0x11, 0x8001, 0x8409, 0x1021, 0xffff, 0xaaab, 0x0801} {
			bent, ok := invert(whole, pattern, from)
			if ok && checksum.Check(bent) {
				t.Errorf("the pattern %#x from the bit %d on passes", pattern, from)
			}
		}
	}
}

// word returns the two bytes of x.
func word(x uint16) []byte {
	return []byte{byte(x >> 8), byte(x)}
}

// 2.7
func TestInternetOfDataWithItsChecksumIsZero(t *testing.T) {
	all := [][]byte{nil, {0, 0}, {0xff, 0xff}, {0xff, 0xff, 0, 1}, bytes.Repeat([]byte{0xff}, 4000)}
	for n := 0; n < 200; n += 2 {
		all = append(all, mixed(n, n))
	}
	for _, b := range all {
		check := checksum.Internet(b)
		if got := checksum.Internet(b, word(check)); got != 0 {
			t.Errorf("% x with its checksum %#x: %#x", b, check, got)
		}
	}
}

// 2.7
func TestInternetAfterUpdateIsZero(t *testing.T) {
	for n := 2; n <= 12; n += 2 {
		for _, b := range [][]byte{make([]byte, n), mixed(n, n), bytes.Repeat([]byte{0xff}, n)} {
			check := checksum.Internet(b)
			for at := 0; at < n; at += 2 {
				old := uint16(b[at])<<8 | uint16(b[at+1])
				for _, next := range edgeWords {
					changed := slices.Concat(b[:at], word(next), b[at+2:])
					now := checksum.Update(check, old, next)
					whole := append(changed, word(now)...)
					zero := bytes.Equal(whole, make([]byte, n+2))
					if got := checksum.Internet(whole); got != 0 && !zero {
						t.Errorf("% x, %#x at %d: % x has the checksum %#x", b, next, at, whole, got)
					}
				}
			}
		}
	}
}

// R3
func TestArgumentsAreKept(t *testing.T) {
	for _, n := range []int{0, 1, 2, 5} {
		want := mixed(n, n+1)
		b := spare.With(want...)
		other := spare.With(9, 8, 7)
		checksum.Sum(b)
		checksum.Internet(b, other, b)
		checksum.Extend(7, b)
		checksum.CRC(b)
		checksum.Append(b)
		checksum.Check(b)
		spare.Check(t, b, want...)
		spare.Check(t, other, 9, 8, 7)
	}
}

// 2.5 with R3
func TestAppendHasMemoryOfItsOwn(t *testing.T) {
	for _, n := range []int{0, 1, 6} {
		want := mixed(n, n+1)
		b := spare.With(want...)
		first, second := checksum.Append(b), checksum.Append(b)
		spare.Flip(first)
		spare.Check(t, b, want...)
		if !checksum.Check(second) || !bytes.Equal(second[:n], want) {
			t.Errorf("%d bytes: two results share memory", n)
		}
	}
}
