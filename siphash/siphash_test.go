package siphash_test

import (
	"bytes"
	"encoding/binary"
	"encoding/hex"
	"math"
	"strings"
	"testing"

	"multihop/api"
	"multihop/internal/spare"
	"multihop/siphash"
)

// The keys of the tests.
const (
	rising  = "000102030405060708090a0b0c0d0e0f"
	zeros   = "00000000000000000000000000000000"
	ones    = "ffffffffffffffffffffffffffffffff"
	uneven  = "8000000000000000ff000000000000aa"
	falling = "f0e1d2c3b4a5968778695a4b3c2d1e0f"
)

// unhex returns the bytes of a hexadecimal text, without octets, which the package itself uses.
func unhex(t *testing.T, s string) []byte {
	t.Helper()
	b, err := hex.DecodeString(s)
	if err != nil {
		t.Fatal(err)
	}
	return b
}

// keyOf returns the key of a hexadecimal text.
func keyOf(t *testing.T, s string) api.Key {
	t.Helper()
	return api.Key(unhex(t, s))
}

// count returns n bytes 0, 1, 2 and so on.
func count(n int) []byte {
	out := make([]byte, n)
	for i := range out {
		out[i] = byte(i)
	}
	return out
}

// rot rotates x to the left by n bits.
func rot(x uint64, n int) uint64 {
	return x<<n + x>>(64-n)
}

// plainSum follows the sentences 3.1 to 3.3 one by one.
func plainSum(key api.Key, b []byte) uint64 {
	k0, k1 := binary.LittleEndian.Uint64(key[:8]), binary.LittleEndian.Uint64(key[8:])
	v0, v1, v2, v3 := k0^0x736f6d6570736575, k1^0x646f72616e646f6d, k0^0x6c7967656e657261, k1^0x7465646279746573
	round := func() {
		v0 = v0 + v1
		v1 = rot(v1, 13)
		v1 = v1 ^ v0
		v0 = rot(v0, 32)
		v2 = v2 + v3
		v3 = rot(v3, 16)
		v3 = v3 ^ v2
		v0 = v0 + v3
		v3 = rot(v3, 21)
		v3 = v3 ^ v0
		v2 = v2 + v1
		v1 = rot(v1, 17)
		v1 = v1 ^ v2
		v2 = rot(v2, 32)
	}
	whole := bytes.Clone(b)
	for len(whole)%8 != 7 {
		whole = append(whole, 0)
	}
	whole = append(whole, byte(len(b)%256))
	for ; len(whole) > 0; whole = whole[8:] {
		m := binary.LittleEndian.Uint64(whole)
		v3 ^= m
		round()
		round()
		v0 ^= m
	}
	v2 ^= 0xff
	for range 4 {
		round()
	}
	return v0 ^ v1 ^ v2 ^ v3
}

// knownTags are tags of eight bytes for count(n), which another implementation has computed.
var knownTags = []struct {
	key  string
	n    int
	want string
}{
	{rising, 0, "310e0edd47db6f72"}, {rising, 1, "fd67dc93c539f874"}, {rising, 2, "5a4fa9d909806c0d"}, {rising, 3, "2d7efbd796666785"},
	{rising, 4, "b7877127e09427cf"}, {rising, 5, "8da699cd64557618"}, {rising, 6, "cee3fe586e46c9cb"}, {rising, 7, "37d1018bf50002ab"},
	{rising, 8, "6224939a79f5f593"}, {rising, 15, "e545be4961ca29a1"}, {rising, 16, "db9bc2577fcc2a3f"}, {rising, 63, "724506eb4c328a95"},
	{rising, 64, "d8ca02850bc4d2ac"}, {rising, 255, "1ab24dc7fe69c1a9"}, {rising, 256, "d7bfa7d226059d99"}, {rising, 257, "4897b2558d7b818a"},
	{rising, 511, "42f25a5ed0039396"}, {rising, 512, "0eda5ae5c3573b88"}, {rising, 1000, "a6c9319ed63e9bdb"},
	{zeros, 0, "d70077739d4b921e"}, {zeros, 13, "35f262dd70196f3c"}, {zeros, 32, "f5063006001e63ab"}, {zeros, 256, "d1a36896281c3b9d"},
	{ones, 0, "65e56ce89e27dd35"}, {ones, 13, "66c5658daf39d4b9"}, {ones, 32, "16f833cef2d1575b"}, {ones, 255, "23f0646d7875736b"},
	{uneven, 0, "e4c1f10a55f17242"}, {uneven, 5, "c5ac6b932289a7fa"}, {uneven, 32, "904bed00b60ff88c"}, {uneven, 1000, "55f6993002602bdf"},
	{falling, 0, "783e4ea76043fc63"}, {falling, 5, "84be3cbbb53f3782"}, {falling, 32, "8f32385fe303ea57"}, {falling, 256, "0d4c30e9c689a931"},
}

// 3.1, 3.2 and 3.3
func TestSum(t *testing.T) {
	for _, x := range knownTags {
		want := binary.LittleEndian.Uint64(unhex(t, x.want))
		if got := siphash.Sum(keyOf(t, x.key), count(x.n)); got != want {
			t.Errorf("%s, %d bytes: %#x, not %#x", x.key, x.n, got, want)
		}
	}
	for n, want := range map[int]uint64{0: 0x726fdb47dd0e0e31, 15: 0xa129ca6149be45e5} {
		if got := siphash.Sum(keyOf(t, rising), count(n)); got != want {
			t.Errorf("the chapter's example of %d bytes: %#x", n, got)
		}
	}
}

// 3.1: each byte of the key has its place in the state.
func TestSumWithEachBitOfTheKey(t *testing.T) {
	b := count(11)
	for i := range 128 {
		key := keyOf(t, falling)
		key[i/8] ^= 1 << (i % 8)
		if got, want := siphash.Sum(key, b), plainSum(key, b); got != want {
			t.Errorf("the bit %d: %#x, not %#x", i, got, want)
		}
	}
}

// 3.3: every length around the multiples of 8 and of 256, with bytes whose bits are all 0, all 1 or neither
func TestSumOfBytesOfAnyNumber(t *testing.T) {
	for n := range 800 {
		for _, b := range [][]byte{count(n), make([]byte, n), bytes.Repeat([]byte{0xff}, n), bytes.Repeat([]byte{0x80, 1, 0xa5}, n)[:n]} {
			for _, key := range []string{rising, falling} {
				if got, want := siphash.Sum(keyOf(t, key), b), plainSum(keyOf(t, key), b); got != want {
					t.Errorf("%s, %d bytes % x: %#x, not %#x", key, n, b[:min(n, 3)], got, want)
				}
			}
		}
	}
	if n := 1<<16 + 5; siphash.Sum(keyOf(t, rising), count(n)) != plainSum(keyOf(t, rising), count(n)) {
		t.Errorf("%d bytes", n)
	}
}

// 3.3 with R4
func TestSumOfNoBytes(t *testing.T) {
	for _, key := range []string{rising, zeros, ones, uneven, falling} {
		none, empty := siphash.Sum(keyOf(t, key), nil), siphash.Sum(keyOf(t, key), []byte{})
		if want := plainSum(keyOf(t, key), nil); none != want || empty != want {
			t.Errorf("%s: %#x and %#x, not %#x", key, none, empty, want)
		}
	}
}

// 3.3: the memory behind b is not data.
func TestSumEndsWithItsBytes(t *testing.T) {
	for n := range 20 {
		if got, want := siphash.Sum(keyOf(t, rising), spare.With(count(n)...)), plainSum(keyOf(t, rising), count(n)); got != want {
			t.Errorf("%d bytes: %#x, not %#x", n, got, want)
		}
	}
}

// otherSizes are numbers of bytes that no tag has.
var otherSizes = []int{0, 9, 10, 16, 255, 257, 264, -1, -8, math.MaxInt, math.MinInt, math.MinInt + 1, math.MaxInt32 + 2}

// 3.4
func TestTag(t *testing.T) {
	for _, x := range knownTags {
		whole := unhex(t, x.want)
		for n := 1; n <= 8; n++ {
			got, ok := siphash.Tag(keyOf(t, x.key), count(x.n), n)
			if !ok || !bytes.Equal(got, whole[:n]) {
				t.Errorf("%s, %d bytes, a tag of %d: %x %t", x.key, x.n, n, got, ok)
			}
		}
		for _, n := range otherSizes {
			if got, ok := siphash.Tag(keyOf(t, x.key), count(x.n), n); ok || len(got) != 0 {
				t.Errorf("%s, %d bytes, a tag of %d: %x %t", x.key, x.n, n, got, ok)
			}
		}
	}
}

// 3.4
func TestVerify(t *testing.T) {
	for _, x := range knownTags {
		whole := unhex(t, x.want)
		for n := 1; n <= 8; n++ {
			if !siphash.Verify(keyOf(t, x.key), count(x.n), whole[:n]) {
				t.Errorf("%s, %d bytes: the tag %x is refused", x.key, x.n, whole[:n])
			}
		}
	}
}

// 3.4
func TestVerifyOfOtherTags(t *testing.T) {
	key := keyOf(t, rising)
	for size := range 18 {
		b := count(size)
		whole := binary.LittleEndian.AppendUint64(nil, plainSum(key, b))
		refuse := func(tag []byte) {
			t.Helper()
			if siphash.Verify(key, b, tag) {
				t.Errorf("%d bytes: the tag %x is accepted", size, tag)
			}
		}
		for n := 1; n <= 8; n++ {
			for i := range 8 * n {
				bent := bytes.Clone(whole[:n])
				bent[i/8] ^= 1 << (i % 8)
				refuse(bent)
			}
		}
		for n := 1; n < 8; n++ {
			refuse(whole[8-n:])
		}
		refuse(nil)
		refuse([]byte{})
		refuse(append(bytes.Clone(whole), 0))
		refuse(append(bytes.Clone(whole), whole...))
		refuse(make([]byte, 300))
	}
}

// 3.4: the tag of other data or of another key is another one for these.
func TestVerifyDependsOnKeyAndData(t *testing.T) {
	key, b := keyOf(t, rising), count(20)
	tag, _ := siphash.Tag(key, b, 8)
	for i := range 128 {
		wrong := key
		wrong[i/8] ^= 1 << (i % 8)
		if siphash.Verify(wrong, b, tag) {
			t.Errorf("accepted with the bit %d of the key inverted", i)
		}
	}
	for i := range 8 * len(b) {
		bent := bytes.Clone(b)
		bent[i/8] ^= 1 << (i % 8)
		if siphash.Verify(key, bent, tag) {
			t.Errorf("accepted with the bit %d of the data inverted", i)
		}
	}
	for _, other := range [][]byte{nil, b[:19], b[1:], append(bytes.Clone(b), 0)} {
		if siphash.Verify(key, other, tag) {
			t.Errorf("accepted for % x", other)
		}
	}
}

// 3.5: keys that another implementation of Sum gives
func TestDerive(t *testing.T) {
	for _, x := range []struct {
		key, label string
		n          uint64
		want       string
	}{
		{rising, "", 0, "b1126f77d1d2db11d5ffa56488503972"},
		{rising, "a", 0, "cb8cdd6c279e71ecf4a3166b07d7398d"},
		{rising, "", 1, "f28c71820a85d98c1eafcbec236ba6a0"},
		{rising, "link", 0x0102030405060708, "55f034a7b31b9bad265093df8097c0f7"},
		{rising, "a\x00b", math.MaxUint64, "873e59a10fba93ad9c39df097ba01898"},
		{rising, "\xff\xfe\x80", 1 << 63, "1a2abb8ea7d1927174a581cbacd0a674"},
		{rising, strings.Repeat("x", 300), 256, "d6d4bb239407d566ba02333cb7bc18e1"},
		{falling, "group", 7, "e8787bee584cd5ba60a0aac737f97cdd"},
	} {
		if got := siphash.Derive(keyOf(t, x.key), x.label, x.n); got != keyOf(t, x.want) {
			t.Errorf("%s %q %#x: %x, not %s", x.key, x.label, x.n, got, x.want)
		}
	}
}

// 3.5: labels of all lengths around a word, and each byte of the number
func TestDeriveOfAnyLabelAndNumber(t *testing.T) {
	key := keyOf(t, uneven)
	for size := range 40 {
		label := string(bytes.Repeat([]byte{0, 0xc3, 'z'}, size)[:size])
		for at := range 8 {
			n := uint64(0x81) << (8 * at)
			text := binary.BigEndian.AppendUint64([]byte(label+"\x00"), n)
			var want []byte
			for i := range 2 {
				want = binary.LittleEndian.AppendUint64(want, plainSum(key, append(text, byte(i))))
			}
			if got := siphash.Derive(key, label, n); got != api.Key(want) {
				t.Errorf("%q %#x: %x, not %x", label, n, got, want)
			}
		}
	}
}

// 3.6
func TestTagsAreBeginningsOfLongerOnes(t *testing.T) {
	for size := range 300 {
		var shorter []byte
		for n := 1; n <= 8; n++ {
			tag, ok := siphash.Tag(keyOf(t, falling), count(size), n)
			if !ok || len(tag) != n || !bytes.HasPrefix(tag, shorter) {
				t.Errorf("%d bytes: the tag %x, and of %d bytes %x %t", size, shorter, n, tag, ok)
			}
			shorter = tag
		}
	}
}

// R3
func TestArgumentsAreKept(t *testing.T) {
	for _, n := range []int{0, 1, 7, 8, 9, 16} {
		key := keyOf(t, rising)
		b := spare.With(count(n)...)
		whole, _ := siphash.Tag(key, b, 8)
		tag := spare.With(whole...)
		siphash.Sum(key, b)
		siphash.Tag(key, b, 3)
		siphash.Verify(key, b, tag)
		siphash.Verify(key, b, b)
		spare.Check(t, b, count(n)...)
		spare.Check(t, tag, whole...)
	}
}

// 3.4 with R3
func TestTagHasMemoryOfItsOwn(t *testing.T) {
	for n := 1; n <= 8; n++ {
		b := spare.With(count(9)...)
		first, _ := siphash.Tag(keyOf(t, rising), b, n)
		second, _ := siphash.Tag(keyOf(t, rising), b, n)
		spare.Flip(first)
		spare.Check(t, b, count(9)...)
		if !siphash.Verify(keyOf(t, rising), b, second) {
			t.Errorf("%d bytes: two results share memory", n)
		}
	}
}
