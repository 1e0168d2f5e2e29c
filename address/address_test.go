package address_test

import (
	"cmp"
	"fmt"
	"math"
	"math/big"
	"net/netip"
	"slices"
	"strconv"
	"strings"
	"testing"

	"multihop/address"
	"multihop/api"
)

// addressOf returns the address with the groups g.
func addressOf(g [8]uint16) api.IP {
	var a api.IP
	for i, v := range g {
		a[2*i], a[2*i+1] = byte(v>>8), byte(v)
	}
	return a
}

// plainText returns the text of g in which '::' stands for the groups from the index from to before the index to, if there are any, and the others are written with the format.
func plainText(g [8]uint16, from, to int, format string) string {
	var out strings.Builder
	for i, v := range g {
		switch {
		case i == from && from < to:
			out.WriteString("::")
		case from < i && i < to:
		default:
			if i > 0 && (i != to || from >= to) {
				out.WriteByte(':')
			}
			fmt.Fprintf(&out, format, v)
		}
	}
	return out.String()
}

// longestZeros tries all sequences of groups that are 0, the long ones and the first ones before others.
func longestZeros(g [8]uint16) (int, int) {
	for size := 8; size >= 2; size-- {
		for from := 0; from+size <= 8; from++ {
			if !slices.ContainsFunc(g[from:from+size], func(v uint16) bool { return v != 0 }) {
				return from, from + size
			}
		}
	}
	return 0, 0
}

// numbers yields n numbers that look random.
func numbers(n int, yield func(v uint64)) {
	v := uint64(1)
	for range n {
		v = v*6364136223846793005 + 1442695040888963407
		yield(v ^ v>>29)
	}
}

// someIPs are addresses with few bits, with all bits, and with any bits.
func someIPs() []api.IP {
	out := []api.IP{{}, {15: 1}, {0: 0x80}, {7: 1}, {8: 0x80}, {0xff, 0x02, 15: 2}, {10: 0xff, 11: 0xff, 12: 192, 15: 1}}
	var ones, low api.IP
	for i := range ones {
		ones[i] = 0xff
		low[i] = byte(0x11 * i)
	}
	out = append(out, ones, low)
	numbers(20, func(v uint64) {
		var a api.IP
		for i := range a {
			a[i] = byte(v >> (3 * i))
		}
		out = append(out, a)
	})
	return out
}

// bitOf returns the bit i of a, the most significant one being the bit 0.
func bitOf(a api.IP, i int) byte {
	return a[i/8] >> (7 - i%8) & 1
}

// plainMask returns a with all bits from the n-th on set to the bit b.
func plainMask(a api.IP, n int, b byte) api.IP {
	for i := n; i < 128; i++ {
		a[i/8] = a[i/8]&^(0x80>>(i%8)) | b<<(7-i%8)
	}
	return a
}

// oddInts are numbers of bits that no prefix has.
var oddInts = []int{-1, -2, -64, -128, math.MinInt, math.MinInt + 1, math.MinInt32, 129, 130, 192, 255, 256, 257, 1 << 32, math.MaxInt - 1, math.MaxInt}

func acceptIP(t *testing.T, s string, want api.IP) {
	t.Helper()
	if got, ok := address.ParseIP(s); !ok || got != want {
		t.Errorf("%q: %x %t, not %x", s, got, ok, want)
	}
}

func refuseIP(t *testing.T, s string) {
	t.Helper()
	if got, ok := address.ParseIP(s); ok || got != (api.IP{}) {
		t.Errorf("%q: %x %t", s, got, ok)
	}
}

// 4.1: every number as a group, with all numbers of digits that it can have, and letters of either case
func TestParseIPOfEachGroup(t *testing.T) {
	for v := range 1 << 16 {
		g := [8]uint16{1, 2, 3, 4, 5, 6, 7, 8}
		g[v%8] = uint16(v)
		for _, format := range []string{"%x", "%02x", "%03x", "%04x", "%X", "%04X"} {
			acceptIP(t, plainText(g, 0, 0, format), addressOf(g))
		}
	}
	acceptIP(t, "aBcD:AbCd:abcD:ABCd:aB:Ab:A:b", addressOf([8]uint16{0xabcd, 0xabcd, 0xabcd, 0xabcd, 0xab, 0xab, 0xa, 0xb}))
}

// 4.1: '::' for any of the groups that are 0, also for one of them, or for a part of a sequence of them
func TestParseIPOfShortenedTexts(t *testing.T) {
	for zeros := range 256 {
		var g [8]uint16
		for i := range g {
			if zeros>>i&1 == 0 {
				g[i] = uint16(0xa1b2 >> i)
			}
		}
		for from := range 9 {
			for to := from; to <= 8; to++ {
				if slices.Max(append([]uint16{0}, g[from:to]...)) != 0 {
					continue
				}
				for _, format := range []string{"%x", "%04X"} {
					acceptIP(t, plainText(g, from, to, format), addressOf(g))
				}
			}
		}
	}
	acceptIP(t, "1:2:3:4:5:6:7::", addressOf([8]uint16{1, 2, 3, 4, 5, 6, 7, 0}))
	acceptIP(t, "::", api.IP{})
}

// 4.1: all texts of at most 17 signs of two kinds, against package netip, which knows the same texts of them
func TestParseIPOfAllTextsOfTwoSigns(t *testing.T) {
	for size := range 18 {
		for pattern := range 1 << size {
			b := make([]byte, size)
			for i := range b {
				b[i] = ":c"[pattern>>i&1]
			}
			if want, err := netip.ParseAddr(string(b)); err == nil {
				acceptIP(t, string(b), want.As16())
			} else {
				refuseIP(t, string(b))
			}
		}
	}
}

// 4.1: every byte in every place of some texts, put in, put instead and left out
func TestParseIPOfTextsWithAnyByte(t *testing.T) {
	check := func(parts ...string) {
		t.Helper()
		s := strings.Join(parts, "")
		// Package netip reads zones and dotted numbers, which are not in texts of 4.1.
		want, err := netip.ParseAddr(s)
		if err == nil && !strings.ContainsAny(s, ".%") {
			acceptIP(t, s, want.As16())
		} else {
			refuseIP(t, s)
		}
	}
	for _, s := range []string{"::", "::1", "12::", "ab::CD", "1:2:3:4:5:6:7:8", "1:2:3:4:5:6:7::", "::2:3:4:5:6:7:8", "1:2:3::5:6:7:8", "0:0:0:0:0:0:0:0", "fe80::200:0:0:1", "ffff:ffff:ffff:ffff:ffff:ffff:ffff:ffff"} {
		for i := range len(s) + 1 {
			for x := range 256 {
				check(s[:i], string([]byte{byte(x)}), s[i:])
				if i < len(s) {
					check(s[:i], string([]byte{byte(x)}), s[i+1:])
				}
			}
			for j := i; j <= len(s); j++ {
				check(s[:i], s[j:])
			}
		}
	}
}

// 4.1
func TestParseIPOfOtherTexts(t *testing.T) {
	for _, s := range []string{
		"", ":", ":::", "::::", "1", "1:2", "1:2:3:4:5:6:7", "1:2:3:4:5:6:7:8:9", "0:0:0:0:0:0:0:0:0",
		"1::2::3", "::1::", "::::1", "1::::", "1:::2", ":::1", "1:::",
		"1:2:3:4:5:6:7:8::", "::1:2:3:4:5:6:7:8", "1:2:3:4::5:6:7:8", "1:2:3:4:5:6:7::8", "::1:2:3:4:5:6:7:8:9", "1:2:3:4:5:6:7:8:9::", "1:2:3:4:5:6:7:8:9:10::1:2:3:4:5:6:7:8:9:10",
		":1:2:3:4:5:6:7", "1:2:3:4:5:6:7:", ":1:2:3:4:5:6:7:8", "1:2:3:4:5:6:7:8:", ":1::", "1::2:", "::1:", ":1::2",
		"00000::", "::00000", "::00001", "::fffff", "::10000", "12345:2:3:4:5:6:7:8", "1:2:3:4:5:6:7:00008",
		"::g", "::G", "::x", "::0x1", "::-1", "::+1", "::_1", "::1_0", "::1.2", "::1.2.3.4", "1.2.3.4", "::ffff:1.2.3.4", "::1%", "::1%a", "::1/64", "[::1]",
		" ::", ":: ", ": :", "::1\n", "\x00::", "::\x00", "::\xff", "::é", "::１", "：：", "::٣",
		strings.Repeat("0", 5) + "::", strings.Repeat("1:", 50000), strings.Repeat(":", 50000), strings.Repeat("1", 50000), "::" + strings.Repeat(":1", 50000), strings.Repeat("1:", 8) + ":", strings.Repeat("0:0:0:0:0:0:0:0:", 2),
	} {
		refuseIP(t, s)
	}
}

// 4.1: all patterns of groups that are 0, with groups of all numbers of digits
func TestFormatIP(t *testing.T) {
	for zeros := range 256 {
		for _, v := range []uint16{1, 0xf, 0x10, 0xab, 0x100, 0x8d0, 0x1000, 0xc00d, 0xffff} {
			var g [8]uint16
			for i := range g {
				if zeros>>i&1 == 0 {
					g[i] = v
				}
			}
			from, to := longestZeros(g)
			if got, want := address.FormatIP(addressOf(g)), plainText(g, from, to, "%x"); got != want {
				t.Errorf("%x: %q, not %q", g, got, want)
			}
		}
	}
}

// 4.1
func TestFormatIPOfKnownAddresses(t *testing.T) {
	for want, g := range map[string][8]uint16{
		"2001:db8::1:0:0:1": {0x2001, 0xdb8, 0, 0, 1, 0, 0, 1}, "1:0:2:3:4:5:6:7": {1, 0, 2, 3, 4, 5, 6, 7}, "0:2:3:4:5:6:7:0": {0, 2, 3, 4, 5, 6, 7, 0},
		"::": {}, "::1": {7: 1}, "1::": {1}, "0:0:3::7:8": {0, 0, 3, 0, 0, 0, 7, 8}, "::4:5:0:0:0": {0, 0, 0, 4, 5}, "1::4:5:6:0:0": {1, 0, 0, 4, 5, 6}, "1:2:3:4:5:6::": {1, 2, 3, 4, 5, 6}, "1:0:3:4:5::": {1, 0, 3, 4, 5},
		"abcd:ef01::f0": {0xabcd, 0xef01, 0, 0, 0, 0, 0, 0xf0}, "::ffff:102:304": {5: 0xffff, 6: 0x102, 7: 0x304}, "ffff:ffff:ffff:ffff:ffff:ffff:ffff:ffff": {0xffff, 0xffff, 0xffff, 0xffff, 0xffff, 0xffff, 0xffff, 0xffff},
	} {
		if got := address.FormatIP(addressOf(g)); got != want {
			t.Errorf("%x: %q, not %q", g, got, want)
		}
	}
}

func acceptPrefix(t *testing.T, s string, want api.Prefix) {
	t.Helper()
	if got, ok := address.ParsePrefix(s); !ok || got != want {
		t.Errorf("%q: %v %t, not %v", s, got, ok, want)
	}
}

func refusePrefix(t *testing.T, s string) {
	t.Helper()
	if got, ok := address.ParsePrefix(s); ok || got != (api.Prefix{}) {
		t.Errorf("%q: %v %t", s, got, ok)
	}
}

// 4.2: prefixes of all numbers of bits, where the last bits of an address may or may not be 0
func TestPrefixesOfAllSizes(t *testing.T) {
	for _, a := range someIPs() {
		for n := range 129 {
			p := api.Prefix{IP: plainMask(a, n, 0), Bits: n}
			if got := address.Mask(a, n); got != p {
				t.Errorf("%x, %d bits: %v, not %v", a, n, got, p)
			}
			text := address.FormatIP(p.IP) + "/" + strconv.Itoa(n)
			if got := address.FormatPrefix(p); got != text || !address.ValidPrefix(p) {
				t.Errorf("%v: %q, not %q", p, got, text)
			}
			acceptPrefix(t, text, p)
			whole := api.Prefix{IP: a, Bits: n}
			if a == p.IP {
				continue
			}
			if got := address.FormatPrefix(whole); got != "" || address.ValidPrefix(whole) {
				t.Errorf("%v: %q", whole, got)
			}
			refusePrefix(t, address.FormatIP(a)+"/"+strconv.Itoa(n))
		}
	}
}

// 4.2: each bit behind the first ones makes a prefix invalid, each one among them does not.
func TestValidPrefixLooksAtEachBit(t *testing.T) {
	for n := range 129 {
		for i := range 128 {
			p := api.Prefix{Bits: n}
			p.IP[i/8] = 0x80 >> (i % 8)
			want := i < n
			if got := address.ValidPrefix(p); got != want || (address.FormatPrefix(p) != "") != want {
				t.Errorf("the bit %d with %d bits: %t %q", i, n, got, address.FormatPrefix(p))
			}
			text := address.FormatIP(p.IP) + "/" + strconv.Itoa(n)
			if want {
				acceptPrefix(t, text, p)
			} else {
				refusePrefix(t, text)
			}
		}
	}
}

// 4.2
func TestPrefixesOfOtherSizes(t *testing.T) {
	for _, a := range someIPs() {
		for _, n := range oddInts {
			p := api.Prefix{IP: a, Bits: n}
			if got := address.FormatPrefix(p); got != "" || address.ValidPrefix(p) {
				t.Errorf("%v: %q", p, got)
			}
			want := api.Prefix{IP: a, Bits: 128}
			if n < 0 {
				want = api.Prefix{}
			}
			if got := address.Mask(a, n); got != want {
				t.Errorf("%x, %d bits: %v, not %v", a, n, got, want)
			}
			refusePrefix(t, address.FormatIP(a)+"/"+strconv.Itoa(n))
		}
	}
}

// 4.2: any text of the address, but one text of the number of bits
func TestParsePrefix(t *testing.T) {
	db8 := addressOf([8]uint16{0x2001, 0xdb8})
	for _, s := range []string{"2001:db8::/32", "2001:DB8::0/32", "2001:0db8:0:0:0:0:0:0/32", "2001:db8:0::0:0/32"} {
		acceptPrefix(t, s, api.Prefix{IP: db8, Bits: 32})
	}
	acceptPrefix(t, "::/0", api.Prefix{})
	acceptPrefix(t, "::/128", api.Prefix{Bits: 128})
	acceptPrefix(t, "::/9", api.Prefix{Bits: 9})
	acceptPrefix(t, "::/64", api.Prefix{Bits: 64})
	for _, s := range []string{
		"", "/", "//", "::", "::/", "/0", "0", "0/::", "::0", "::/0/", "::/0/0", "::/ /0", "/::/0", "::1::/0", "1/0", "x::/0", "1:2:3:4:5:6:7/0",
		"::/00", "::/000", "::/01", "::/08", "::/064", "::/0128", "::/0000000000000000000000000000000",
		"::/129", "::/130", "::/200", "::/256", "::/1280", "::/4294967296", "::/18446744073709551616", "::/18446744073709551744", "::/99999999999999999999999", "::/" + strings.Repeat("1", 50000),
		"::/+0", "::/+1", "::/-0", "::/-1", "::/-128", "::/1.", "::/1.0", "::/1e1", "::/0x10", "::/1_0", "::/a", "::/1a", "::/ 1", "::/1 ", " ::/1", "::/1\n", "::/1\x00", "::/١", "::/１", "::%a/1", "1.2.3.4/0",
		"::1/127", "::1/0", "8000::/0", "2001:db8::/28", "2001:db8:0:0:8000::/64",
	} {
		refusePrefix(t, s)
	}
	for i := range 256 {
		if text := "::/1" + string([]byte{byte(i)}); i < '0' || i > '9' {
			refusePrefix(t, text)
		}
	}
}

// somePrefixes are valid prefixes, otherPrefixes are none.
func somePrefixes() []api.Prefix {
	var out []api.Prefix
	for _, a := range someIPs() {
		for _, n := range []int{0, 1, 7, 8, 9, 31, 63, 64, 65, 100, 120, 127, 128} {
			out = append(out, api.Prefix{IP: plainMask(a, n, 0), Bits: n})
		}
	}
	return out
}

func otherPrefixes() []api.Prefix {
	out := []api.Prefix{{IP: api.IP{0: 0x80}}, {IP: api.IP{15: 1}}, {IP: api.IP{15: 1}, Bits: 127}, {IP: api.IP{8: 0x80}, Bits: 64}, {IP: api.IP{7: 1}, Bits: 63}, {IP: api.IP{15: 1}, Bits: 64}}
	for _, n := range oddInts {
		out = append(out, api.Prefix{Bits: n}, api.Prefix{IP: api.IP{0: 0xff, 15: 1}, Bits: n})
	}
	return out
}

// 4.3: each bit inverted alone, and with all bits behind it
func TestCommonAndContainsAtEachBit(t *testing.T) {
	for _, a := range someIPs() {
		if got := address.Common(a, a); got != 128 {
			t.Errorf("%x with itself: %d", a, got)
		}
		for i := range 128 {
			b := a
			b[i/8] ^= 0x80 >> (i % 8)
			for _, c := range []api.IP{b, plainMask(b, i+1, 0), plainMask(b, i+1, 1)} {
				if got, back := address.Common(a, c), address.Common(c, a); got != i || back != i {
					t.Errorf("%x and %x: %d %d, not %d", a, c, got, back, i)
				}
				for n := range 129 {
					p := api.Prefix{IP: plainMask(a, n, 0), Bits: n}
					if got := address.Contains(p, c); got != (i >= n) {
						t.Errorf("%v and %x: %t", p, c, got)
					}
				}
			}
		}
	}
}

// 4.3
func TestContains(t *testing.T) {
	for _, p := range somePrefixes() {
		first, last := p.IP, plainMask(p.IP, p.Bits, 1)
		if !address.Contains(p, first) || !address.Contains(p, last) {
			t.Errorf("%v without its first or its last address", p)
		}
		for _, a := range someIPs() {
			if got := address.Contains(p, a); got != (plainMask(a, p.Bits, 0) == p.IP) {
				t.Errorf("%v and %x: %t", p, a, got)
			}
		}
	}
	for _, p := range otherPrefixes() {
		for _, a := range append(someIPs(), p.IP, plainMask(p.IP, max(0, min(p.Bits, 128)), 0)) {
			if address.Contains(p, a) {
				t.Errorf("%v, which is not valid, contains %x", p, a)
			}
		}
	}
}

// 4.3 and 4.8: a prefix contains another one if it contains its first and its last address, because its addresses follow one another.
func TestCovers(t *testing.T) {
	valid := somePrefixes()
	for _, p := range valid {
		from, to := number(p.IP), number(plainMask(p.IP, p.Bits, 1))
		for _, q := range valid {
			want := from.Cmp(number(q.IP)) <= 0 && to.Cmp(number(plainMask(q.IP, q.Bits, 1))) >= 0
			if got := address.Covers(p, q); got != want {
				t.Errorf("%v and %v: %t", p, q, got)
			}
			if both := address.Covers(p, q) && address.Covers(q, p); both != (p == q) {
				t.Errorf("%v and %v cover one another: %t", p, q, both)
			}
		}
		for _, q := range otherPrefixes() {
			if address.Covers(p, q) || address.Covers(q, p) {
				t.Errorf("%v and %v, which is not valid", p, q)
			}
		}
	}
	for _, p := range otherPrefixes() {
		for _, q := range append(otherPrefixes(), p) {
			if address.Covers(p, q) {
				t.Errorf("%v and %v, which are not valid", p, q)
			}
		}
	}
}

// number returns the number of the bits of a.
func number(a api.IP) *big.Int {
	return new(big.Int).SetBytes(a[:])
}

// 4.3 and 4.8: prefixes of one address with all numbers of bits
func TestCoversOfAllSizes(t *testing.T) {
	for _, a := range someIPs()[:9] {
		for n := range 129 {
			for m := range 129 {
				p, q := api.Prefix{IP: plainMask(a, n, 0), Bits: n}, api.Prefix{IP: plainMask(a, m, 0), Bits: m}
				if got := address.Covers(p, q); got != (n <= m) {
					t.Errorf("%v and %v: %t", p, q, got)
				}
			}
		}
	}
}

// 4.4: each byte of either half
func TestSplit(t *testing.T) {
	for _, a := range someIPs() {
		high, low := address.Split(a)
		if got := fmt.Sprintf("%016x%016x", high, low); got != fmt.Sprintf("%x", a) {
			t.Errorf("%x: %s", a, got)
		}
	}
	if high, low := address.Split(addressOf([8]uint16{0x8001, 0x203, 0x405, 0x607, 0xf809, 0xa0b, 0xc0d, 0xe0f})); high != 0x8001020304050607 || low != 0xf8090a0b0c0d0e0f {
		t.Errorf("%#x %#x", high, low)
	}
}

// 4.4
func TestJoin(t *testing.T) {
	for _, a := range someIPs() {
		for n := range 129 {
			p := api.Prefix{IP: plainMask(a, n, 0), Bits: n}
			for _, iid := range []uint64{0, 1, 0x8000000000000000, 0xf8090a0b0c0d0e0f, math.MaxUint64} {
				got, ok := address.Join(p, iid)
				if n > 64 {
					if ok || got != (api.IP{}) {
						t.Errorf("%v and %#x: %x %t", p, iid, got, ok)
					}
					continue
				}
				if want := fmt.Sprintf("%x%016x", p.IP[:8], iid); !ok || fmt.Sprintf("%x", got) != want {
					t.Errorf("%v and %#x: %x %t, not %s", p, iid, got, ok, want)
				}
			}
		}
	}
	for _, p := range otherPrefixes() {
		if got, ok := address.Join(p, 1); ok || got != (api.IP{}) {
			t.Errorf("%v: %x %t", p, got, ok)
		}
	}
}

// someAddrs are link addresses of all modes and some that are none, in ascending order by mode, short address and EUI.
func someAddrs() []api.Addr {
	var out []api.Addr
	for _, mode := range []int{math.MinInt, -1, api.AddrNone, 1, api.AddrShort, api.AddrLong, 4, 255, math.MaxInt} {
		for _, short := range []api.Short{0, 1, 0x7fff, 0x8000, 0xfffe, api.Broadcast} {
			for _, eui := range []api.EUI{0, 1, 0xffff, 1 << 57, math.MaxInt64, 1 << 63, math.MaxUint64} {
				out = append(out, api.Addr{Mode: mode, Short: short, EUI: eui})
			}
		}
	}
	return out
}

// validAddrs are those of someAddrs that 4.5 calls valid.
func validAddrs() map[api.Addr]bool {
	out := map[api.Addr]bool{{}: true}
	for _, short := range []api.Short{0, 1, 0x7fff, 0x8000, 0xfffe, api.Broadcast} {
		out[api.Addr{Mode: api.AddrShort, Short: short}] = true
	}
	for _, eui := range []api.EUI{0, 1, 0xffff, 1 << 57, math.MaxInt64, 1 << 63, math.MaxUint64} {
		out[api.Addr{Mode: api.AddrLong, EUI: eui}] = true
	}
	return out
}

// 4.5
func TestValid(t *testing.T) {
	valid, found := validAddrs(), 0
	for _, a := range someAddrs() {
		if got := address.Valid(a); got != valid[a] {
			t.Errorf("%v: %t", a, got)
		}
		if valid[a] {
			found++
		}
	}
	if found != len(valid) {
		t.Errorf("%d of %d valid addresses were tried", found, len(valid))
	}
}

// 4.5
func TestIsBroadcast(t *testing.T) {
	broadcast := api.Addr{Mode: 2, Short: 0xffff}
	if !address.IsBroadcast(broadcast) {
		t.Error("not the broadcast address")
	}
	for _, a := range someAddrs() {
		if a != broadcast && address.IsBroadcast(a) {
			t.Errorf("%v", a)
		}
	}
	for short := range api.Broadcast {
		if address.IsBroadcast(api.Addr{Mode: api.AddrShort, Short: short}) {
			t.Errorf("the short address %#x", short)
		}
	}
}

// 4.5: the order of all link addresses, also of those that are not valid
func TestCompare(t *testing.T) {
	all := someAddrs()
	for i, a := range all {
		for j, b := range all {
			if got, want := address.Compare(a, b), cmp.Compare(i, j); got != want {
				t.Errorf("%v and %v: %d, not %d", a, b, got, want)
			}
		}
	}
}

// checkIdentity checks IID and LinkLocal of a.
func checkIdentity(t *testing.T, a api.Addr, iid uint64) {
	t.Helper()
	if got, ok := address.IID(a); !ok || got != iid {
		t.Errorf("%v: %#x %t, not %#x", a, got, ok, iid)
	}
	if got, ok := address.LinkLocal(a); !ok || fmt.Sprintf("%x", got) != fmt.Sprintf("fe80000000000000%016x", iid) {
		t.Errorf("%v: %x %t, not of %#x", a, got, ok, iid)
	}
}

// 4.6
func TestIdentifiersOfLinkAddresses(t *testing.T) {
	long := func(x api.EUI) api.Addr { return api.Addr{Mode: api.AddrLong, EUI: x} }
	checkIdentity(t, long(0x0200000000000001), 1)
	checkIdentity(t, long(1), 0x0200000000000001)
	checkIdentity(t, long(0), 0x0200000000000000)
	checkIdentity(t, long(math.MaxUint64), 0xfdffffffffffffff)
	checkIdentity(t, long(0x0123456789abcdef), 0x0323456789abcdef)
	for i := range 64 {
		x := uint64(1) << i
		want := x + 0x0200000000000000
		if i == 57 {
			want = 0
		}
		checkIdentity(t, long(api.EUI(x)), want)
	}
	for short := range 1 << 16 {
		checkIdentity(t, api.Addr{Mode: api.AddrShort, Short: api.Short(short)}, 0x000000fffe000000+uint64(short))
	}
}

// 4.6
func TestIdentifiersOfOthers(t *testing.T) {
	valid := validAddrs()
	for _, a := range someAddrs() {
		want := valid[a] && a.Mode != api.AddrNone
		iid, ok := address.IID(a)
		local, is := address.LinkLocal(a)
		if ok != want || is != want || !want && (iid != 0 || local != (api.IP{})) {
			t.Errorf("%v: %#x %t, %x %t", a, iid, ok, local, is)
		}
	}
}

// 4.7
func TestIsMulticast(t *testing.T) {
	for first := range 256 {
		for _, rest := range []byte{0, 2, 0xff} {
			var a api.IP
			for i := range a {
				a[i] = rest
			}
			a[0] = byte(first)
			if got := address.IsMulticast(a); got != (first == 0xff) {
				t.Errorf("%x: %t", a, got)
			}
		}
	}
}

// 4.7
func TestSolicited(t *testing.T) {
	for _, a := range someIPs() {
		if got, want := fmt.Sprintf("%x", address.Solicited(a)), fmt.Sprintf("ff0200000000000000000001ff%x", a[13:]); got != want {
			t.Errorf("%x: %s, not %s", a, got, want)
		}
	}
	if got := address.FormatIP(address.Solicited(addressOf([8]uint16{0x2001, 0xdb8, 0, 0, 1, 2, 0xabcd, 0xef01}))); got != "ff02::1:ffcd:ef01" {
		t.Error(got)
	}
}

// 4.8
func TestParseIPUndoesFormatIP(t *testing.T) {
	check := func(a api.IP) {
		t.Helper()
		acceptIP(t, address.FormatIP(a), a)
	}
	for _, a := range someIPs() {
		check(a)
	}
	for i := range 128 {
		for j := range 128 {
			var a api.IP
			a[i/8] ^= 0x80 >> (i % 8)
			a[j/8] ^= 0x80 >> (j % 8)
			check(a)
		}
	}
	numbers(20000, func(v uint64) {
		var g [8]uint16
		for i := range g {
			if v>>(56+i)&1 == 1 {
				g[i] = uint16(v>>(5*i)) >> (v >> (40 + 2*i) & 3 * 4)
			}
		}
		check(addressOf(g))
	})
}

// 4.8
func TestDifferentLinkAddressesHaveDifferentIdentifiers(t *testing.T) {
	seen := map[string]api.Addr{}
	note := func(a api.Addr) {
		t.Helper()
		iid, _ := address.IID(a)
		local, ok := address.LinkLocal(a)
		key := fmt.Sprint(a.Mode, iid, local)
		if b, taken := seen[key]; !ok || taken && a != b {
			t.Errorf("%v and %v: %#x %t", a, b, iid, ok)
		}
		seen[key] = a
	}
	for short := range 1 << 16 {
		note(api.Addr{Mode: api.AddrShort, Short: api.Short(short)})
	}
	for i := range 64 {
		for j := range 64 {
			x := api.EUI(1)<<i | api.EUI(1)<<j
			note(api.Addr{Mode: api.AddrLong, EUI: x})
			note(api.Addr{Mode: api.AddrLong, EUI: ^x})
		}
	}
	numbers(20000, func(v uint64) { note(api.Addr{Mode: api.AddrLong, EUI: api.EUI(v)}) })
}
