// Package octets: numbers and bits in byte strings. See shared/doc/01-octets.md.
package octets

import "multihop/api"

const hexDigits = "0123456789abcdef"

// Append returns the bytes of b followed by the n least significant bytes of v, the most significant one of them first.
// It returns the bytes of b if n is not from 0 to 8.
func Append(b []byte, v uint64, n int) []byte {
	if n < 0 || n > 8 {
		n = 0
	}
	out := make([]byte, len(b)+n)
	copy(out, b)
	for i := range n {
		out[len(b)+i] = byte(v >> (8 * (n - 1 - i)))
	}
	return out
}

// Uint returns the number whose bytes, the most significant one first, are the n bytes of b from the index at on.
// It returns false if n is not from 1 to 8, or these are not n bytes of b.
func Uint(b []byte, at, n int) (uint64, bool) {
	if n < 1 || n > 8 || !inside(len(b), at, n) {
		return 0, false
	}
	var v uint64
	for _, x := range b[at : at+n] {
		v = v<<8 | uint64(x)
	}
	return v, true
}

// inside reports whether the n elements from the index at on are among the first size ones, where n is not negative.
// It subtracts, because at + n may overflow.
func inside(size, at, n int) bool {
	return at >= 0 && at <= size && n <= size-at
}

// ValidBits reports whether s has as many bytes as its bits need, and all bits behind them are 0.
func ValidBits(s api.BitString) bool {
	if s.Len < 0 || len(s.Bytes) != bytesFor(s.Len) {
		return false
	}
	used := s.Len % 8
	return used == 0 || s.Bytes[len(s.Bytes)-1]<<used == 0
}

// bytesFor returns how many bytes so many bits need.
// It divides before it rounds up, because bits + 7 may overflow.
func bytesFor(bits int) int {
	return bits/8 + (bits%8+7)/8
}

// AppendBits returns the bits of s followed by the n least significant bits of v, the most significant one of them first.
// It returns false if s is not valid or n is not from 0 to 64.
func AppendBits(s api.BitString, v uint64, n int) (api.BitString, bool) {
	if n < 0 || n > 64 || !ValidBits(s) {
		return api.BitString{}, false
	}
	size := s.Len + n
	out := make([]byte, bytesFor(size))
	copy(out, s.Bytes)
	for i := range n {
		bit := byte(v >> (n - 1 - i) & 1)
		at := s.Len + i
		out[at/8] |= bit << (7 - at%8)
	}
	return api.BitString{Bytes: out, Len: size}, true
}

// Bits returns the number whose binary digits, the most significant one first, are the n bits of s from the bit at on.
// It returns false if s is not valid, n is not from 1 to 64, or these are not n bits of s.
func Bits(s api.BitString, at, n int) (uint64, bool) {
	if n < 1 || n > 64 || !ValidBits(s) || !inside(s.Len, at, n) {
		return 0, false
	}
	var v uint64
	for i := at; i < at+n; i++ {
		bit := s.Bytes[i/8] >> (7 - i%8) & 1
		v = v<<1 | uint64(bit)
	}
	return v, true
}

// Hex returns two lower-case hexadecimal digits for each byte of b.
func Hex(b []byte) string {
	out := make([]byte, 0, 2*len(b))
	for _, x := range b {
		out = append(out, hexDigits[x>>4], hexDigits[x&15])
	}
	return string(out)
}

// Unhex returns the bytes whose Hex is s, or false if there are none.
func Unhex(s string) ([]byte, bool) {
	if len(s)%2 != 0 {
		return nil, false
	}
	out := make([]byte, len(s)/2)
	// A rune of several bytes is no digit, so that i counts the digits as long as the loop goes on.
	for i, r := range s {
		d, ok := digit(r)
		if !ok {
			return nil, false
		}
		out[i/2] = out[i/2]<<4 | d
	}
	return out, true
}

// digit returns the value of a lower-case hexadecimal digit.
func digit(r rune) (byte, bool) {
	switch {
	case '0' <= r && r <= '9':
		return byte(r - '0'), true
	case 'a' <= r && r <= 'f':
		return byte(r-'a') + 10, true
	}
	return 0, false
}
