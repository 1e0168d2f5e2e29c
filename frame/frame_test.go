package frame_test

import (
	"bytes"
	"encoding/binary"
	"encoding/hex"
	"fmt"
	"math"
	"math/rand"
	"strings"
	"testing"

	"multihop/api"
	"multihop/frame"
	"multihop/internal/spare"
)

func short(x api.Short) api.Addr {
	return api.Addr{Mode: api.AddrShort, Short: x}
}

func long(x api.EUI) api.Addr {
	return api.Addr{Mode: api.AddrLong, EUI: x}
}

// same reports whether two frames are equal.
func same(f, g api.Frame) bool {
	return f.Kind == g.Kind && f.AckRequest == g.AckRequest && f.Pending == g.Pending && f.Secure == g.Secure && f.Seq == g.Seq && f.Pan == g.Pan && f.Dst == g.Dst && f.Src == g.Src &&
		f.Counter == g.Counter && f.Key == g.Key && bytes.Equal(f.Payload, g.Payload) && bytes.Equal(f.MIC, g.MIC)
}

// isZero reports whether f is the zero value.
func isZero(f api.Frame) bool {
	return same(f, api.Frame{})
}

// count returns n bytes that differ from their neighbours, and none of which is 0.
func count(n int) []byte {
	out := make([]byte, n)
	for i := range out {
		out[i] = byte(1 + i%255)
	}
	return out
}

// unhex returns the bytes of a hexadecimal text with any spaces.
func unhex(t *testing.T, s string) []byte {
	t.Helper()
	b, err := hex.DecodeString(strings.ReplaceAll(s, " ", ""))
	if err != nil {
		t.Fatal(err)
	}
	return b
}

// withCRC returns the bytes of b followed by their CRC, bit by bit as 2.4 and 2.5 say.
func withCRC(b []byte) []byte {
	crc := uint16(0)
	for _, x := range b {
		for i := range 8 {
			out := (crc ^ uint16(x>>i)) & 1
			crc = crc>>1 ^ out*0x8408
		}
	}
	return append(bytes.Clone(b), byte(crc), byte(crc>>8))
}

// plainHeader follows 5.1 as far as MIC.
func plainHeader(f api.Frame) []byte {
	flag := map[bool]int{true: 1}
	first := f.Kind*64 + flag[f.AckRequest]*32 + flag[f.Pending]*16 + flag[f.Secure]*8
	out := []byte{byte(first), byte(f.Dst.Mode*64 + f.Src.Mode*16), f.Seq}
	if f.Kind != api.FrameAck {
		out = binary.BigEndian.AppendUint16(out, f.Pan)
		for _, a := range []api.Addr{f.Dst, f.Src} {
			if a.Mode == api.AddrShort {
				out = binary.BigEndian.AppendUint16(out, uint16(a.Short))
			} else {
				out = binary.BigEndian.AppendUint64(out, uint64(a.EUI))
			}
		}
	}
	if f.Secure {
		out = binary.BigEndian.AppendUint32(out, f.Counter)
		out = append(out, f.Key)
	}
	return append(out, f.Payload...)
}

// plain follows 5.1.
func plain(f api.Frame) []byte {
	return withCRC(append(plainHeader(f), f.MIC...))
}

// change returns f after an edit.
func change(f api.Frame, edit func(f *api.Frame)) api.Frame {
	edit(&f)
	return f
}

// withPayload returns f with so many bytes of payload.
func withPayload(f api.Frame, n int) api.Frame {
	return change(f, func(f *api.Frame) { f.Payload = count(n) })
}

// destinations and origins are addresses of both modes, also such that look like the broadcast address and like none.
func origins() []api.Addr {
	return []api.Addr{short(0x1234), short(0), short(0xfffe), long(0x0102030405060708), long(0), long(0xffff), long(math.MaxUint64)}
}

func destinations() []api.Addr {
	return append(origins(), short(api.Broadcast))
}

// empties are valid frames without payload of both kinds that have addresses, with all flags and pairs of addresses.
func empties() []api.Frame {
	var out []api.Frame
	for _, dst := range destinations() {
		for _, src := range origins() {
			for flags := range 16 {
				f := api.Frame{Kind: api.FrameData, AckRequest: flags&1 != 0, Pending: flags&2 != 0, Secure: flags&4 != 0, Seq: 0x9a, Pan: 0xbcde, Dst: dst, Src: src}
				if flags&8 != 0 {
					f.Kind = api.FrameCommand
				}
				if f.Secure {
					f.Counter, f.Key, f.MIC = 0xf1e2d3c4, 0xb5, []byte{0xa6, 0x97, 0x88, 0x79}
				}
				if !f.AckRequest || dst != short(api.Broadcast) {
					out = append(out, f)
				}
			}
		}
	}
	return out
}

// acks are all valid acknowledgements.
func acks() []api.Frame {
	var out []api.Frame
	for seq := range 256 {
		out = append(out, api.Frame{Kind: api.FrameAck, Seq: uint8(seq)}, api.Frame{Kind: api.FrameAck, Seq: uint8(seq), Pending: true})
	}
	return out
}

// someFrames are a few valid frames that differ in everything.
func someFrames() []api.Frame {
	return []api.Frame{
		{Kind: api.FrameAck, Seq: 7},
		{Kind: api.FrameData, Seq: 1, Pan: 2, Dst: short(api.Broadcast), Src: short(3), Payload: []byte{9}},
		{Kind: api.FrameCommand, AckRequest: true, Pending: true, Secure: true, Seq: 255, Pan: 0xabcd, Dst: long(0x0102030405060708), Src: short(0x1112), Counter: 0x21222324, Key: 7, Payload: []byte{1, 2}, MIC: []byte{4, 5, 6, 7}},
		{Kind: api.FrameData, Secure: true, Seq: 3, Pan: 4, Dst: short(5), Src: long(6), Counter: 7, Key: 8, MIC: []byte{0, 0, 0, 0}},
		{Kind: api.FrameData, AckRequest: true, Pan: 0xffff, Dst: long(0xffff), Src: long(0xffff), Payload: count(50)},
	}
}

// numbered returns a valid frame that depends on the source alone.
func numbered(r *rand.Rand) api.Frame {
	pick := func() api.Addr {
		if r.Intn(2) == 0 {
			return short(api.Short(r.Intn(0xffff)))
		}
		return long(api.EUI(r.Uint64()))
	}
	f := api.Frame{Kind: api.FrameData + 2*r.Intn(2), AckRequest: r.Intn(2) == 0, Pending: r.Intn(2) == 0, Secure: r.Intn(2) == 0, Seq: uint8(r.Intn(256)), Pan: uint16(r.Intn(1 << 16)), Dst: pick(), Src: pick()}
	if r.Intn(4) == 0 {
		f.Dst, f.AckRequest = short(api.Broadcast), false
	}
	if f.Secure {
		f.Counter, f.Key, f.MIC = r.Uint32(), uint8(r.Intn(256)), make([]byte, 4)
		r.Read(f.MIC)
	}
	f.Payload = make([]byte, r.Intn(127-len(plain(f))+1))
	r.Read(f.Payload)
	return f
}

// accept fails if f is not a valid frame with the encoding want.
func accept(t *testing.T, f api.Frame, want []byte) {
	t.Helper()
	if got, e := frame.Encode(f); e != api.OK || !bytes.Equal(got, want) {
		t.Errorf("%+v: %x %v, not %x", f, got, e, want)
	}
	if got := frame.Size(f); !frame.Valid(f) || got != len(want) {
		t.Errorf("%+v: valid is %t, %d bytes, not %d", f, frame.Valid(f), got, len(want))
	}
	if got, e := frame.Decode(want); e != api.OK || !same(got, f) {
		t.Errorf("%x: %+v %v, not %+v", want, got, e, f)
	}
	if got, end := frame.Header(f), len(want)-2-len(f.MIC); !bytes.Equal(got, want[:end]) {
		t.Errorf("%+v: the header %x, not %x", f, got, want[:end])
	}
}

// refuse fails if f is a valid frame, or has another header than want.
func refuse(t *testing.T, f api.Frame, want []byte) {
	t.Helper()
	name := fmt.Sprintf("kind %d, %+v", f.Kind, f)
	if len(name) > 500 {
		name = name[:500]
	}
	if frame.Valid(f) || frame.Size(f) != 0 || frame.Room(f) != 0 {
		t.Errorf("%s: valid is %t, size %d, room %d", name, frame.Valid(f), frame.Size(f), frame.Room(f))
	}
	if b, e := frame.Encode(f); e != api.ErrInvalid || len(b) != 0 {
		t.Errorf("%s: the encoding %x %v", name, b, e)
	}
	if ack, ok := frame.AckFor(f); ok || !isZero(ack) {
		t.Errorf("%s: the acknowledgement %+v %t", name, ack, ok)
	}
	if got := frame.Header(f); !bytes.Equal(got, want) {
		t.Errorf("%s: the header %x, not %x", name, got, want)
	}
}

// refuseBytes fails if b is decoded, or with another error than want.
func refuseBytes(t *testing.T, b []byte, want api.Errno) {
	t.Helper()
	if f, e := frame.Decode(b); e != want || !isZero(f) {
		t.Errorf("%d bytes, %x: %+v %v, not %v", len(b), b, f, e, want)
	}
}

// 5.1: encodings that were written by hand, with the CRC of another program
func TestKnownEncodings(t *testing.T) {
	for want, f := range map[string]api.Frame{
		"80 00 07 5378":                   {Kind: api.FrameAck, Seq: 7},
		"90 00 00 7989":                   {Kind: api.FrameAck, Pending: true},
		"90 00 ff 0186":                   {Kind: api.FrameAck, Pending: true, Seq: 255},
		"80 00 00 ec0c":                   {Kind: api.FrameAck},
		"40 a0 01 0002 ffff 0003 09 5d6c": {Kind: api.FrameData, Seq: 1, Pan: 2, Dst: short(0xffff), Src: short(3), Payload: []byte{9}},
		"f8 e0 ff abcd 0102030405060708 1112 21222324 07 0102 04050607 ed43":           {Kind: api.FrameCommand, AckRequest: true, Pending: true, Secure: true, Seq: 255, Pan: 0xabcd, Dst: long(0x0102030405060708), Src: short(0x1112), Counter: 0x21222324, Key: 7, Payload: []byte{1, 2}, MIC: []byte{4, 5, 6, 7}},
		"60 b0 80 8001 fffe 8000000000000001 00 61c9":                                  {Kind: api.FrameData, AckRequest: true, Seq: 128, Pan: 0x8001, Dst: short(0xfffe), Src: long(0x8000000000000001), Payload: []byte{0}},
		"c0 f0 00 0000 0000000000000000 ffffffffffffffff bf5e":                         {Kind: api.FrameCommand, Dst: long(0), Src: long(math.MaxUint64)},
		"58 a0 7f 1234 ffff 0000 ffffffff ff deadbeef a450":                            {Kind: api.FrameData, Pending: true, Secure: true, Seq: 127, Pan: 0x1234, Dst: short(0xffff), Src: short(0), Counter: math.MaxUint32, Key: 255, MIC: []byte{0xde, 0xad, 0xbe, 0xef}},
		"d0 e0 05 ffff 000000000000ffff fffe aabbcc 7659":                              {Kind: api.FrameCommand, Pending: true, Seq: 5, Pan: 0xffff, Dst: long(0xffff), Src: short(0xfffe), Payload: []byte{0xaa, 0xbb, 0xcc}},
		"68 f0 06 0102 1112131415161718 2122232425262728 31323334 35 41 51525354 117c": {Kind: api.FrameData, AckRequest: true, Secure: true, Seq: 6, Pan: 0x0102, Dst: long(0x1112131415161718), Src: long(0x2122232425262728), Counter: 0x31323334, Key: 0x35, Payload: []byte{0x41}, MIC: []byte{0x51, 0x52, 0x53, 0x54}},
	} {
		accept(t, f, unhex(t, want))
	}
}

// 5.1, 5.2, 5.4 and 5.5
func TestFramesOfEachKind(t *testing.T) {
	for _, f := range acks() {
		accept(t, f, plain(f))
	}
	for _, empty := range empties() {
		for _, n := range []int{0, 1, 2, 4, 5, 20, 127 - len(plain(empty))} {
			f := withPayload(empty, n)
			accept(t, f, plain(f))
		}
	}
}

// 5.1: each bit of each number has its place.
func TestEachBitOfANumber(t *testing.T) {
	for i := range 64 {
		for _, f := range empties() {
			f.Seq = 1 << (i % 8)
			f.Pan = 1 << (i % 16)
			for _, a := range []*api.Addr{&f.Dst, &f.Src} {
				if a.Mode == api.AddrShort {
					*a = short(1 << (i % 16))
				} else {
					*a = long(1 << i)
				}
			}
			if f.Secure {
				f.Counter, f.Key = 1<<(i%32), 1<<(i%8)
				f.MIC = binary.BigEndian.AppendUint32(nil, 1<<(i%32))
			}
			f.Payload = binary.BigEndian.AppendUint64(nil, 1<<i)
			accept(t, f, plain(f))
		}
	}
}

// otherKinds are numbers of no kind, some of which look like one if only their last bits are looked at.
var otherKinds = []int{0, 4, 5, 6, 7, -1, -2, -3, 65, 66, 67, 129, 257, 258, 259, 1 << 20, 1<<32 + 1, 1<<32 + 2, math.MinInt, math.MinInt + 1, math.MaxInt}

// otherAddrs are no link addresses, or not that of one node or of all.
func otherAddrs() []api.Addr {
	out := []api.Addr{
		{}, {Short: 1}, {EUI: 1}, {Short: api.Broadcast},
		{Mode: api.AddrShort, EUI: 1}, {Mode: api.AddrShort, Short: 5, EUI: 1 << 63}, {Mode: api.AddrShort, Short: api.Broadcast, EUI: 7},
		{Mode: api.AddrLong, Short: 1}, {Mode: api.AddrLong, Short: 1 << 15, EUI: 5}, {Mode: api.AddrLong, Short: api.Broadcast},
	}
	for _, mode := range []int{1, 4, 5, 6, 7, 8, 18, 19, -1, -2, -3, 258, 259, 1<<32 + 2, math.MinInt, math.MinInt + 2, math.MaxInt} {
		out = append(out, api.Addr{Mode: mode}, api.Addr{Mode: mode, Short: 3}, api.Addr{Mode: mode, EUI: 3})
	}
	return out
}

// 5.2
func TestFramesOfOtherKinds(t *testing.T) {
	for _, f := range append(someFrames(), api.Frame{}) {
		for _, k := range otherKinds {
			refuse(t, change(f, func(f *api.Frame) { f.Kind = k }), nil)
		}
	}
	// What is valid as one kind is not valid as another one.
	for _, f := range empties() {
		refuse(t, change(f, func(f *api.Frame) { f.Kind = api.FrameAck }), nil)
	}
	for _, f := range acks() {
		refuse(t, change(f, func(f *api.Frame) { f.Kind = api.FrameData }), nil)
		refuse(t, change(f, func(f *api.Frame) { f.Kind = api.FrameCommand }), nil)
	}
}

// 5.2
func TestFramesWithOtherAddresses(t *testing.T) {
	for _, f := range empties() {
		refuse(t, change(f, func(f *api.Frame) { f.Src = short(api.Broadcast) }), nil)
		for _, a := range otherAddrs() {
			refuse(t, change(f, func(f *api.Frame) { f.Dst = a }), nil)
			refuse(t, change(f, func(f *api.Frame) { f.Src = a }), nil)
			refuse(t, change(f, func(f *api.Frame) { f.Dst, f.Src = a, a }), nil)
		}
	}
}

// 5.2: all neighbours cannot be asked for an acknowledgement, but a node whose address looks similar can.
func TestBroadcast(t *testing.T) {
	toAll, toOne := 0, 0
	for _, f := range empties() {
		asking := change(f, func(f *api.Frame) { f.AckRequest = true })
		if f.Dst == short(api.Broadcast) {
			toAll++
			accept(t, f, plain(f))
			refuse(t, asking, nil)
			refuse(t, change(asking, func(f *api.Frame) { f.Payload = count(9) }), nil)
		} else {
			toOne++
			accept(t, asking, plain(asking))
		}
	}
	if toAll == 0 || toOne == 0 {
		t.Errorf("%d frames to all, %d to one", toAll, toOne)
	}
}

// 5.2: what belongs to a secure frame, and to no other one
func TestFramesThatAreNotSecure(t *testing.T) {
	for _, f := range empties() {
		if f.Secure {
			refuse(t, change(f, func(f *api.Frame) { f.Secure = false }), nil)
			continue
		}
		for i := range 32 {
			refuse(t, change(f, func(f *api.Frame) { f.Counter = 1 << i }), nil)
			refuse(t, change(f, func(f *api.Frame) { f.Key = 1 << (i % 8) }), nil)
		}
		for _, n := range []int{1, 2, 3, 4, 5, 8, 50, 200, 256, 260} {
			refuse(t, change(f, func(f *api.Frame) { f.MIC = make([]byte, n) }), nil)
			refuse(t, change(f, func(f *api.Frame) { f.MIC = count(n) }), nil)
		}
	}
}

// 5.2 and 5.4: a secure frame without its MIC is not valid, but has the header that it has with one.
func TestSecureFramesWithoutTheirMIC(t *testing.T) {
	for _, empty := range empties() {
		if !empty.Secure {
			continue
		}
		full := 127 - len(plain(empty))
		for _, size := range []int{0, 1, full - 1, full} {
			f := withPayload(empty, size)
			for _, n := range []int{0, 1, 2, 3, 5, 6, 7, 8, 16, 50, 127, 128, 256, 260, 1000} {
				refuse(t, change(f, func(f *api.Frame) { f.MIC = count(n) }), plainHeader(f))
			}
		}
		// Without a MIC these would have at most 127 bytes, with one of four bytes they have more.
		for size := full + 1; size <= full+5; size++ {
			for n := range 10 {
				f := withPayload(empty, size)
				refuse(t, change(f, func(f *api.Frame) { f.MIC = count(n) }), nil)
			}
		}
	}
}

// 5.2 and 5.4: with or without a MIC, what is wrong otherwise stays wrong.
func TestOtherSecureFramesWithoutTheirMIC(t *testing.T) {
	f := someFrames()[2]
	for _, n := range []int{0, 3, 4, 5} {
		f.MIC = count(n)
		refuse(t, change(f, func(f *api.Frame) { f.Src = short(api.Broadcast) }), nil)
		refuse(t, change(f, func(f *api.Frame) { f.Dst = short(api.Broadcast) }), nil)
		for _, a := range otherAddrs() {
			refuse(t, change(f, func(f *api.Frame) { f.Dst = a }), nil)
			refuse(t, change(f, func(f *api.Frame) { f.Src = a }), nil)
		}
		for _, k := range append(otherKinds, api.FrameAck) {
			refuse(t, change(f, func(f *api.Frame) { f.Kind = k }), nil)
		}
		refuse(t, api.Frame{Kind: api.FrameAck, Secure: true, MIC: count(n)}, nil)
	}
}

// 5.2: an acknowledgement with anything in it
func TestAcknowledgementsWithMore(t *testing.T) {
	edits := []func(f *api.Frame){
		func(f *api.Frame) { f.AckRequest = true },
		func(f *api.Frame) { f.Secure = true },
		func(f *api.Frame) { f.Secure, f.MIC = true, make([]byte, 4) },
		func(f *api.Frame) { f.Secure, f.MIC, f.Counter, f.Key = true, count(4), 1, 1 },
		func(f *api.Frame) { f.Dst, f.Src = long(1), long(2) },
		func(f *api.Frame) { f.Dst, f.Src = short(api.Broadcast), short(1) },
	}
	for i := range 32 {
		edits = append(edits, func(f *api.Frame) { f.Pan = 1 << (i % 16) }, func(f *api.Frame) { f.Counter = 1 << i }, func(f *api.Frame) { f.Key = 1 << (i % 8) })
	}
	for _, n := range []int{1, 2, 4, 100, 122, 123, 256, 1000} {
		edits = append(edits, func(f *api.Frame) { f.Payload = make([]byte, n) }, func(f *api.Frame) { f.MIC = make([]byte, n) })
	}
	for _, a := range append(otherAddrs(), destinations()...) {
		if a != (api.Addr{}) {
			edits = append(edits, func(f *api.Frame) { f.Dst = a }, func(f *api.Frame) { f.Src = a })
		}
	}
	for _, f := range []api.Frame{{Kind: api.FrameAck}, {Kind: api.FrameAck, Seq: 255, Pending: true}} {
		for _, edit := range edits {
			refuse(t, change(f, edit), nil)
		}
	}
}

// 5.2, 5.3 and 5.5: frames of each length up to 127 bytes, and of more
func TestRoom(t *testing.T) {
	for _, empty := range empties() {
		for size := 127 - len(plain(empty)); size >= 0; size-- {
			f := withPayload(empty, size)
			want := 127 - len(plain(f))
			if got := frame.Room(f); got != want {
				t.Fatalf("%+v: %d, not %d", f, got, want)
			}
			if size > 2 && want > 2 {
				continue
			}
			full := withPayload(f, size+want)
			if b := plain(full); len(b) != 127 || frame.Room(full) != 0 {
				t.Errorf("%+v: %d bytes, room %d", full, len(b), frame.Room(full))
			}
			accept(t, full, plain(full))
			refuse(t, withPayload(f, size+want+1), nil)
		}
	}
	for _, f := range acks() {
		if got := frame.Room(f); got != 0 {
			t.Errorf("%+v: %d", f, got)
		}
	}
}

// 5.2: frames that are much too long, also if only the last bits of their lengths are looked at
func TestFramesOfManyBytes(t *testing.T) {
	for _, f := range someFrames() {
		for _, n := range []int{128, 200, 255, 256, 257, 512, 1000, 1 << 16, 1<<16 + 1} {
			refuse(t, withPayload(f, n), nil)
		}
	}
}

// 5.5: ErrLimit comes before all others, also if the CRC is right.
func TestDecodeOfTooManyBytes(t *testing.T) {
	for _, n := range []int{128, 129, 130, 255, 256, 261, 300, 1 << 16, 1<<16 + 5} {
		refuseBytes(t, make([]byte, n), api.ErrLimit)
		refuseBytes(t, count(n), api.ErrLimit)
		refuseBytes(t, withCRC(count(n-2)), api.ErrLimit)
	}
	// This would be a frame if one byte more were allowed.
	for _, f := range someFrames()[1:] {
		long := plain(withPayload(f, len(f.Payload)+frame.Room(f)+1))
		if len(long) != 128 {
			t.Errorf("%d bytes", len(long))
		}
		refuseBytes(t, long, api.ErrLimit)
		refuseBytes(t, append(plain(f), make([]byte, 128)...), api.ErrLimit)
	}
}

// 5.5: ErrTruncated comes before ErrChecksum.
func TestDecodeOfTooFewBytes(t *testing.T) {
	refuseBytes(t, nil, api.ErrTruncated)
	for n := range 5 {
		refuseBytes(t, make([]byte, n), api.ErrTruncated)
		refuseBytes(t, bytes.Repeat([]byte{0xff}, n), api.ErrTruncated)
		refuseBytes(t, plain(api.Frame{Kind: api.FrameAck, Seq: 7})[:n], api.ErrTruncated)
		if n >= 2 {
			refuseBytes(t, withCRC([]byte{0x80, 0, 7}[:n-2]), api.ErrTruncated)
		}
		// There is memory behind the bytes, which are not those of b.
		b := spare.With(plain(api.Frame{Kind: api.FrameAck, Seq: 7})...)
		refuseBytes(t, b[:n], api.ErrTruncated)
	}
}

// 5.5: ErrChecksum comes before ErrForm.
func TestDecodeOfOtherChecksums(t *testing.T) {
	for _, f := range someFrames() {
		b := plain(f)
		for i := range 1 << 16 {
			bad := bytes.Clone(b)
			bad[len(b)-2] ^= byte(i)
			bad[len(b)-1] ^= byte(i >> 8)
			if i != 0 {
				refuseBytes(t, bad, api.ErrChecksum)
			}
		}
		swapped := bytes.Clone(b)
		swapped[len(b)-2], swapped[len(b)-1] = b[len(b)-1], b[len(b)-2]
		refuseBytes(t, swapped, api.ErrChecksum)
	}
	for _, b := range [][]byte{{0, 0, 0, 0, 1}, {0xff, 0xff, 0xff, 0, 0}, {0x80, 0x10, 0, 0, 0}, count(5), count(126), count(127)} {
		refuseBytes(t, b, api.ErrChecksum)
	}
}

// couldBe reports whether there is a valid frame with the body b, by 5.1 and 5.2.
func couldBe(b []byte) bool {
	kind, secure := b[0]>>6, b[0]&8 != 0
	if b[0]&7 != 0 || b[1]&15 != 0 || kind == 0 {
		return false
	}
	if kind == api.FrameAck {
		return b[0]&0x28 == 0 && b[1] == 0 && len(b) == 3
	}
	need := 5
	var all [2]bool
	for i, mode := range []byte{b[1] >> 6, b[1] >> 4 & 3} {
		size := map[byte]int{api.AddrShort: 2, api.AddrLong: 8}[mode]
		if size == 0 || len(b) < need+size {
			return false
		}
		all[i] = size == 2 && b[need] == 0xff && b[need+1] == 0xff
		need += size
	}
	if secure {
		need += 9
	}
	return len(b) >= need && !all[1] && !(all[0] && b[0]&0x20 != 0)
}

// checkBody fails if Decode does with the body b, whose CRC is right, something else than couldBe says, or Encode does not give it back.
func checkBody(t *testing.T, b []byte) {
	t.Helper()
	whole := withCRC(b)
	if !couldBe(b) {
		refuseBytes(t, whole, api.ErrForm)
		return
	}
	f, e := frame.Decode(whole)
	if e != api.OK || !frame.Valid(f) || !bytes.Equal(plain(f), whole) {
		t.Errorf("%x: %+v %v", whole, f, e)
	}
	if again, e := frame.Encode(f); e != api.OK || !bytes.Equal(again, whole) {
		t.Errorf("%x is decoded, but encoded as %x %v", whole, again, e)
	}
}

// 5.5: all pairs of first bytes, with the lengths at which another field ends
func TestDecodeOfAllFirstBytes(t *testing.T) {
	for _, n := range []int{3, 4, 8, 9, 10, 14, 15, 17, 18, 20, 21, 23, 24, 29, 30, 125} {
		b := count(n)
		for i := range 1 << 16 {
			b[0], b[1] = byte(i>>8), byte(i)
			checkBody(t, b)
		}
	}
}

// 5.5: frames that end too early, at each byte, or go on behind their end
func TestDecodeOfFramesOfOtherLengths(t *testing.T) {
	for _, f := range append(someFrames(), empties()...) {
		b := plain(f)
		text := b[:len(b)-2]
		for n := 3; n < len(text); n++ {
			checkBody(t, text[:n])
		}
		for _, more := range []int{1, 2, 4} {
			checkBody(t, append(bytes.Clone(text), count(more)...))
		}
	}
}

// 5.5: any byte in each place, so that among others both broadcast addresses appear
func TestDecodeOfFramesWithAnyByte(t *testing.T) {
	for _, f := range someFrames() {
		for _, dst := range destinations() {
			for _, src := range destinations() {
				if f.Kind == api.FrameAck {
					break
				}
				checkBody(t, plainHeader(change(f, func(f *api.Frame) { f.Dst, f.Src = dst, src })))
			}
		}
		b := plain(f)
		text := b[:len(b)-2]
		for i := range text {
			for x := range 256 {
				bent := bytes.Clone(text)
				bent[i] = byte(x)
				checkBody(t, bent)
			}
		}
	}
}

// 5.5: acknowledgements with anything in them
func TestDecodeOfOtherAcknowledgements(t *testing.T) {
	for _, text := range []string{
		"800000 00", "900007 01", "800007 0000", "a00007", "880007", "b80007", "810007", "820007", "840007", "801007", "804007", "802007", "808007", "80a007", "80f007", "800107", "800f07",
		"800007 0000", "80a007 0001 0002 0003", "88a007 0001 0002 0003 00000000 00 00000000", "880007 00000000 00 00000000", "880007 00000001 01 01020304", "880007 01020304",
	} {
		refuseBytes(t, withCRC(unhex(t, text)), api.ErrForm)
	}
}

// 5.6
func TestAckFor(t *testing.T) {
	for _, f := range empties() {
		for seq := range 256 {
			f.Seq = uint8(seq)
			ack, ok := frame.AckFor(f)
			switch {
			case !f.AckRequest && (ok || !isZero(ack)):
				t.Errorf("%+v, which asks for none: %+v", f, ack)
			case f.AckRequest && (!ok || !same(ack, api.Frame{Kind: api.FrameAck, Seq: f.Seq}) || !frame.Valid(ack)):
				t.Errorf("%+v: %+v %t", f, ack, ok)
			}
		}
	}
	for _, f := range acks() {
		if ack, ok := frame.AckFor(f); ok || !isZero(ack) {
			t.Errorf("an acknowledgement of %+v: %+v", f, ack)
		}
	}
	for _, f := range append(someFrames(), empties()...) {
		f.AckRequest = true
		f.Src = short(api.Broadcast)
		if ack, ok := frame.AckFor(f); ok || !isZero(ack) {
			t.Errorf("%+v, which is not valid: %+v", f, ack)
		}
	}
}

// 5.7
func TestDecodeUndoesEncode(t *testing.T) {
	r := rand.New(rand.NewSource(5))
	for range 20000 {
		f := numbered(r)
		b, e := frame.Encode(f)
		if e != api.OK || !bytes.Equal(b, plain(f)) {
			t.Fatalf("%+v: %x %v", f, b, e)
		}
		got, e := frame.Decode(b)
		if e != api.OK || !same(got, f) {
			t.Fatalf("%+v: %x, %+v %v", f, b, got, e)
		}
	}
}

// 5.7: any bytes, the first two of which may be those of a frame
func TestEncodeUndoesDecode(t *testing.T) {
	r := rand.New(rand.NewSource(7))
	decoded := 0
	for range 50000 {
		b := make([]byte, 3+r.Intn(123))
		r.Read(b)
		b[0] &= 0xf8
		b[1] = b[1]&0x50 | 0xa0
		checkBody(t, b)
		if couldBe(b) {
			decoded++
		}
	}
	if decoded < 20000 {
		t.Errorf("only %d of the bytes are a frame", decoded)
	}
}

// invert inverts the bits of b that the pattern has, its lowest bit being the bit at of b, as far as there are any; low says that the bits of a byte are numbered from the least significant one on.
func invert(b []byte, at int, pattern uint16, low bool) {
	for i := range 16 {
		k := at + i
		if pattern>>i&1 == 0 || k >= 8*len(b) {
			continue
		}
		if low {
			b[k/8] ^= 1 << (k % 8)
		} else {
			b[k/8] ^= 0x80 >> (k % 8)
		}
	}
}

// checkInverted fails if b is decoded after the bits of a pattern have been inverted anywhere. The number of a bit in its byte is read both ways.
func checkInverted(t *testing.T, b []byte, pattern uint16) {
	t.Helper()
	for at := range 8 * len(b) {
		for _, low := range []bool{false, true} {
			invert(b, at, pattern, low)
			if f, e := frame.Decode(b); e == api.OK || !isZero(f) {
				t.Errorf("%x is decoded as %+v", b, f)
			}
			invert(b, at, pattern, low)
		}
	}
}

// 5.7: all patterns of at most 16 bits in short frames
func TestInvertedBits(t *testing.T) {
	for _, f := range []api.Frame{{Kind: api.FrameAck, Seq: 7}, someFrames()[1]} {
		for pattern := 1; pattern < 1<<16; pattern += 2 {
			checkInverted(t, plain(f), uint16(pattern))
		}
	}
}

// 5.7: some patterns in frames of any length
func TestInvertedBitsOfLongFrames(t *testing.T) {
	for _, empty := range append(empties()[:40], someFrames()[2:]...) {
		for _, f := range []api.Frame{empty, withPayload(empty, len(empty.Payload)+frame.Room(empty))} {
			for _, pattern := range []uint16{1, 3, 0xff, 0x8001, 0x8409, 0x1081, 0x1021, 0xffff, 0x5555, 0x6b31} {
				checkInverted(t, plain(f), pattern)
			}
		}
	}
}

// R3
func TestArgumentsAreKept(t *testing.T) {
	for _, f := range append(someFrames(), withPayload(someFrames()[1], 500), change(someFrames()[2], func(f *api.Frame) { f.MIC = []byte{1, 2} })) {
		payload, mic := bytes.Clone(f.Payload), bytes.Clone(f.MIC)
		f.Payload, f.MIC = spare.With(payload...), spare.With(mic...)
		frame.Valid(f)
		frame.Size(f)
		frame.Room(f)
		frame.AckFor(f)
		header := frame.Header(f)
		b, _ := frame.Encode(f)
		spare.Flip(header)
		spare.Flip(b)
		spare.Check(t, f.Payload, payload...)
		spare.Check(t, f.MIC, mic...)
	}
}

// R3
func TestDecodeHasMemoryOfItsOwn(t *testing.T) {
	for _, f := range someFrames() {
		want := plain(f)
		b := spare.With(want...)
		first, _ := frame.Decode(b)
		second, _ := frame.Decode(b)
		spare.Flip(first.Payload)
		if !bytes.Equal(first.MIC, f.MIC) {
			t.Errorf("%+v: Payload and MIC share memory", f)
		}
		spare.Flip(first.MIC)
		spare.Check(t, b, want...)
		if !same(second, f) {
			t.Errorf("%+v: two results share memory", f)
		}
	}
}

// R3
func TestEncodeAndHeaderHaveMemoryOfTheirOwn(t *testing.T) {
	for _, f := range someFrames() {
		for _, call := range []func() []byte{
			func() []byte { return frame.Header(f) },
			func() []byte { b, _ := frame.Encode(f); return b },
		} {
			first, second := call(), call()
			want := bytes.Clone(second)
			spare.Flip(first)
			if !bytes.Equal(second, want) {
				t.Errorf("%+v: two results share memory", f)
			}
		}
	}
}

// R4: nil and empty slices
func TestEmptySlices(t *testing.T) {
	for _, f := range append(empties(), api.Frame{Kind: api.FrameAck, Seq: 3}) {
		want := plain(f)
		f.Payload = []byte{}
		if !f.Secure {
			f.MIC = []byte{}
		}
		accept(t, f, want)
	}
}
