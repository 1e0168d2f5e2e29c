package guard_test

import (
	"bytes"
	"encoding/binary"
	"encoding/hex"
	"fmt"
	"math"
	"math/rand"
	"slices"
	"testing"

	"multihop/api"
	"multihop/frame"
	"multihop/guard"
	"multihop/internal/spare"
	"multihop/siphash"
)

func short(x api.Short) api.Addr {
	return api.Addr{Mode: api.AddrShort, Short: x}
}

func long(x api.EUI) api.Addr {
	return api.Addr{Mode: api.AddrLong, EUI: x}
}

// sameFrame and same report whether two frames, or two guards, are equal.
func sameFrame(f, g api.Frame) bool {
	return f.Kind == g.Kind && f.AckRequest == g.AckRequest && f.Pending == g.Pending && f.Secure == g.Secure && f.Seq == g.Seq && f.Pan == g.Pan && f.Dst == g.Dst && f.Src == g.Src &&
		f.Counter == g.Counter && f.Key == g.Key && bytes.Equal(f.Payload, g.Payload) && bytes.Equal(f.MIC, g.MIC)
}

func same(a, b api.Guard) bool {
	return slices.Equal(a.Keys, b.Keys) && a.Counter == b.Counter && a.Reserved == b.Reserved && a.Nonce == b.Nonce && slices.Equal(a.Peers, b.Peers)
}

// change and changed return a frame, or a guard, after an edit of a copy.
func change(f api.Frame, edit func(f *api.Frame)) api.Frame {
	f.Payload, f.MIC = bytes.Clone(f.Payload), bytes.Clone(f.MIC)
	edit(&f)
	return f
}

func changed(g api.Guard, edit func(g *api.Guard)) api.Guard {
	g.Keys, g.Peers = slices.Clone(g.Keys), slices.Clone(g.Peers)
	edit(&g)
	return g
}

// keys are the keys of the guards.
func keys() []api.LinkKey {
	return []api.LinkKey{{Index: 2, Key: api.Key{1, 2, 3}}, {Index: 9, Key: api.Key{15: 7}}, {Index: 200}}
}

// peer returns a peer that has sent one frame.
func peer(src api.Addr, key uint8, last uint32) api.Peer {
	return api.Peer{Src: src, Key: key, Last: last, Window: 1}
}

// with returns a guard with these peers.
func with(peers ...api.Peer) api.Guard {
	return api.Guard{Keys: keys(), Counter: 10, Reserved: 1000, Nonce: 0x0a0b0c0d, Peers: peers}
}

// data and command return frames from a sender.
func data(src api.Addr) api.Frame {
	return api.Frame{Kind: api.FrameData, Seq: 3, Pan: 1, Dst: short(6), Src: src, Payload: []byte{1, 2, 3}}
}

func command(src api.Addr, payload ...byte) api.Frame {
	return api.Frame{Kind: api.FrameCommand, Pending: true, Seq: 4, Pan: 1, Dst: short(api.Broadcast), Src: src, Payload: payload}
}

// plainHeader follows 5.1 as far as MIC, for a secure frame.
func plainHeader(f api.Frame) []byte {
	flag := map[bool]int{true: 1}
	out := []byte{byte(f.Kind*64 + flag[f.AckRequest]*32 + flag[f.Pending]*16 + 8), byte(f.Dst.Mode*64 + f.Src.Mode*16), f.Seq}
	out = binary.BigEndian.AppendUint16(out, f.Pan)
	for _, a := range []api.Addr{f.Dst, f.Src} {
		if a.Mode == api.AddrShort {
			out = binary.BigEndian.AppendUint16(out, uint16(a.Short))
		} else {
			out = binary.BigEndian.AppendUint64(out, uint64(a.EUI))
		}
	}
	out = binary.BigEndian.AppendUint32(out, f.Counter)
	return append(append(out, f.Key), f.Payload...)
}

// sign returns f with this counter, the index of the key k, and its tag.
func sign(f api.Frame, counter uint32, k api.LinkKey) api.Frame {
	f.Secure, f.Counter, f.Key = true, counter, k.Index
	f.MIC, _ = siphash.Tag(k.Key, plainHeader(f), 4)
	return f
}

// someFrames are a few valid frames that are not secure.
func someFrames() []api.Frame {
	return []api.Frame{
		data(short(5)),
		data(long(5)),
		command(short(5)),
		command(long(math.MaxUint64), 1, 2),
		{Kind: api.FrameData, AckRequest: true, Dst: short(0), Src: short(0)},
		{Kind: api.FrameCommand, AckRequest: true, Pending: true, Seq: 255, Pan: 0xffff, Dst: long(0xffff), Src: long(0), Payload: bytes.Repeat([]byte{0xff}, 50)},
		{Kind: api.FrameData, Pending: true, Dst: short(api.Broadcast), Src: short(0xfffe), Payload: []byte{0}},
	}
}

// checkInvalid fails if a function has a result for g, a guard that is not valid, or names another error first.
func checkInvalid(t *testing.T, g api.Guard) {
	t.Helper()
	if guard.Valid(g) {
		t.Errorf("%+v is valid", g)
	}
	for _, n := range []uint32{0, 1} {
		if next, e := guard.Reserve(g, n); e != api.ErrInvalid || !same(next, api.Guard{}) {
			t.Errorf("%+v: Reserve: %+v %v", g, next, e)
		}
	}
	for _, key := range []uint8{2, 3} {
		if next, f, e := guard.Seal(g, data(short(5)), key); e != api.ErrInvalid || !same(next, api.Guard{}) || !sameFrame(f, api.Frame{}) {
			t.Errorf("%+v: Seal: %+v %+v %v", g, next, f, e)
		}
		if next, e := guard.Open(g, sign(data(short(5)), 2000, api.LinkKey{Index: key, Key: keys()[0].Key})); e != api.ErrInvalid || !same(next, api.Guard{}) {
			t.Errorf("%+v: Open: %+v %v", g, next, e)
		}
	}
	if c := guard.Challenge(g); len(c) != 0 {
		t.Errorf("%+v: Challenge: % x", g, c)
	}
	if next := guard.Restart(g, 5); !same(next, api.Guard{}) {
		t.Errorf("%+v: Restart: %+v", g, next)
	}
}

// checkValid fails if g is not valid for a function.
func checkValid(t *testing.T, g api.Guard) {
	t.Helper()
	next, e := guard.Reserve(g, 1)
	if !guard.Valid(g) || e != api.OK || !guard.Valid(next) || len(guard.Challenge(g)) != 5 {
		t.Errorf("%+v: %t, Reserve: %v, Challenge: % x", g, guard.Valid(g), e, guard.Challenge(g))
	}
	if again := guard.Restart(g, 5); again.Nonce != 5 || again.Reserved != g.Reserved || !slices.Equal(again.Keys, g.Keys) {
		t.Errorf("%+v: Restart: %+v", g, again)
	}
}

// check fails if a function takes g for valid and should not, or the other way round.
func check(t *testing.T, g api.Guard, want bool) {
	t.Helper()
	if want {
		checkValid(t, g)
	} else {
		checkInvalid(t, g)
	}
}

// 6.1: keys
func TestValidKeys(t *testing.T) {
	for a := range 256 {
		for b := range 256 {
			g := api.Guard{Keys: []api.LinkKey{{Index: uint8(a)}, {Index: uint8(b), Key: api.Key{1}}}}
			if guard.Valid(g) != (a < b) {
				t.Errorf("the keys %d and %d", a, b)
			}
		}
	}
	indexes := []uint8{0, 1, 7, 128, 255}
	for count := range len(indexes) + 1 {
		var g api.Guard
		for _, x := range indexes[:count] {
			g.Keys = append(g.Keys, api.LinkKey{Index: x})
		}
		check(t, g, count <= api.MaxKeys)
		for i := range min(count, api.MaxKeys) - 1 {
			swapped := changed(g, func(g *api.Guard) { g.Keys[i], g.Keys[i+1] = g.Keys[i+1], g.Keys[i] })
			twice := changed(g, func(g *api.Guard) { g.Keys[i] = g.Keys[i+1] })
			check(t, swapped, false)
			check(t, twice, false)
		}
	}
	check(t, api.Guard{Keys: make([]api.LinkKey, 1000)}, false)
}

// 6.1: counters
func TestValidCounters(t *testing.T) {
	edges := []uint32{0, 1, 2, 255, 1<<31 - 1, 1 << 31, 1<<31 + 1, math.MaxUint32 - 1, math.MaxUint32}
	for _, counter := range edges {
		for _, reserved := range edges {
			g := changed(with(peer(short(1), 2, 3)), func(g *api.Guard) { g.Counter, g.Reserved = counter, reserved })
			if counter <= reserved {
				if !guard.Valid(g) {
					t.Errorf("%d of %d", counter, reserved)
				}
			} else {
				checkInvalid(t, g)
			}
		}
	}
}

// someSenders are addresses of peers with keys, ascending.
func someSenders() []api.Peer {
	var out []api.Peer
	for _, src := range []api.Addr{short(0), short(1), short(2), short(255), short(256), short(0x7fff), short(0x8000), short(0xfffe), long(0), long(1), long(0xffff), long(1 << 32), long(1 << 63), long(math.MaxUint64)} {
		for _, k := range keys() {
			out = append(out, peer(src, k.Index, 0))
		}
	}
	return out
}

// 6.1: the order of peers
func TestValidOrderOfPeers(t *testing.T) {
	all := someSenders()
	for i, p := range all {
		for j, q := range all {
			if guard.Valid(with(p, q)) != (i < j) {
				t.Errorf("%+v before %+v", p, q)
			}
		}
	}
	checkInvalid(t, with(all[3], all[3]))
	checkInvalid(t, with(all[4], all[3]))
	// The states of peers do not order them.
	checkInvalid(t, with(api.Peer{Src: short(1), Key: 2, Last: 5, Window: 1}, api.Peer{Src: short(1), Key: 2, Last: 6, Window: 3}))
	checkValid(t, with(api.Peer{Src: short(1), Key: 2, Last: 6, Window: 3}, api.Peer{Src: short(2), Key: 2, Last: 5, Window: 1}))
}

// 6.1: the number of peers
func TestValidNumberOfPeers(t *testing.T) {
	all := someSenders()
	for count := range len(all) + 1 {
		check(t, with(all[:count]...), count <= api.MaxPeers)
	}
	for i := range api.MaxPeers - 1 {
		swapped := changed(with(all[:api.MaxPeers]...), func(g *api.Guard) { g.Peers[i], g.Peers[i+1] = g.Peers[i+1], g.Peers[i] })
		check(t, swapped, false)
	}
}

// 6.1: each peer
func TestValidPeers(t *testing.T) {
	for at := range 3 {
		place := func(p api.Peer) api.Guard {
			return changed(with(peer(short(10), 2, 0), peer(short(20), 2, 0), peer(short(30), 2, 0)), func(g *api.Guard) { g.Peers[at] = p })
		}
		inside := short(api.Short(10 + 10*at))
		for i := range 32 {
			check(t, place(api.Peer{Src: inside, Key: 2, Window: 1 << i}), i == 0)
			check(t, place(api.Peer{Src: inside, Key: 2, Window: 1 | 1<<i}), true)
			check(t, place(api.Peer{Src: inside, Key: 2, Window: math.MaxUint32 - 1<<i}), i != 0)
		}
		check(t, place(api.Peer{Src: inside, Key: 2}), false)
		for key := range 256 {
			check(t, place(peer(inside, uint8(key), 7)), key == 2 || key == 9 || key == 200)
		}
		check(t, place(peer(change(data(inside), func(f *api.Frame) { f.Src.EUI = 1 }).Src, 2, 0)), false)
	}
	for _, src := range []api.Addr{{}, short(api.Broadcast), {Short: 1}, {EUI: 1}, {Mode: api.AddrShort, Short: 1, EUI: 1}, {Mode: api.AddrShort, Short: api.Broadcast, EUI: 1}, {Mode: api.AddrLong, Short: 1},
		{Mode: api.AddrLong, Short: api.Broadcast}, {Mode: 1}, {Mode: 4}, {Mode: -1}, {Mode: math.MinInt, Short: 1}, {Mode: math.MaxInt, EUI: 1}} {
		checkInvalid(t, with(peer(src, 2, 0)))
	}
	// A peer needs a key, also in a guard without keys.
	checkInvalid(t, api.Guard{Peers: []api.Peer{peer(short(1), 0, 0)}})
	checkValid(t, api.Guard{Keys: []api.LinkKey{{Index: 0}}, Peers: []api.Peer{peer(short(1), 0, 0)}})
}

// plainValid follows 6.1.
func plainValid(g api.Guard) bool {
	ok := len(g.Keys) <= 4 && len(g.Peers) <= 16 && g.Counter <= g.Reserved
	for i, k := range g.Keys {
		for _, l := range g.Keys[:i] {
			ok = ok && l.Index < k.Index
		}
	}
	place := func(p api.Peer) []byte {
		b := binary.BigEndian.AppendUint16([]byte{byte(p.Src.Mode)}, uint16(p.Src.Short))
		return append(binary.BigEndian.AppendUint64(b, uint64(p.Src.EUI)), p.Key)
	}
	for i, p := range g.Peers {
		for _, q := range g.Peers[:i] {
			ok = ok && bytes.Compare(place(q), place(p)) < 0
		}
		ok = ok && (p.Src.Mode == 2 && p.Src.EUI == 0 && p.Src.Short != 0xffff || p.Src.Mode == 3 && p.Src.Short == 0)
		ok = ok && p.Window%2 == 1 && slices.ContainsFunc(g.Keys, func(k api.LinkKey) bool { return k.Index == p.Key })
	}
	return ok
}

// 6.1: guards of small numbers
func TestValidAgainstPlainVersion(t *testing.T) {
	r := rand.New(rand.NewSource(61))
	valid := 0
	for range 200000 {
		g := api.Guard{Counter: uint32(r.Intn(5)), Reserved: uint32(2 + r.Intn(5))}
		for range r.Intn(4) {
			g.Keys = append(g.Keys, api.LinkKey{Index: uint8(len(g.Keys) + r.Intn(2))})
		}
		for range r.Intn(4) {
			p := peer(short(api.Short(len(g.Peers)+r.Intn(2))), uint8(r.Intn(3)), 0)
			if r.Intn(3) == 0 {
				p.Src = long(api.EUI(len(g.Peers)))
			}
			if r.Intn(20) == 0 {
				p.Src.Mode = r.Intn(5)
			}
			if r.Intn(20) == 0 {
				p.Window = uint32(r.Intn(4))
			}
			g.Peers = append(g.Peers, p)
		}
		want := plainValid(g)
		if guard.Valid(g) != want {
			t.Fatalf("%+v: not %t", g, want)
		}
		if want {
			valid++
		}
	}
	if valid < 20000 || valid > 180000 {
		t.Errorf("%d of 200000 guards were valid", valid)
	}
}

// 6.2
func TestReserve(t *testing.T) {
	edges := []uint32{1, 2, 3, 255, 256, 65536, 1<<31 - 1, 1 << 31, 1<<31 + 1, math.MaxUint32 - 2, math.MaxUint32 - 1, math.MaxUint32}
	for _, counter := range []uint32{0, 1, 10} {
		for _, reserved := range append(edges, 0, 10) {
			for _, n := range edges {
				if counter > reserved {
					continue
				}
				g := changed(with(peer(short(1), 2, 3), peer(long(1), 9, 4)), func(g *api.Guard) { g.Counter, g.Reserved = counter, reserved })
				want := g
				want.Reserved = uint32(min(uint64(reserved)+uint64(n), 1<<32-1))
				if got, e := guard.Reserve(g, n); e != api.OK || !same(got, want) {
					t.Errorf("%d and %d: %+v %v", reserved, n, got, e)
				}
			}
		}
	}
	for _, g := range []api.Guard{{}, with(), with(peer(short(1), 2, 3)), {Counter: math.MaxUint32, Reserved: math.MaxUint32}} {
		if got, e := guard.Reserve(g, 0); e != api.ErrRange || !same(got, api.Guard{}) {
			t.Errorf("%+v: %+v %v", g, got, e)
		}
	}
}

// knownKey returns the key with this hexadecimal text.
func knownKey(t *testing.T, index uint8, s string) api.LinkKey {
	b, err := hex.DecodeString(s)
	if err != nil {
		t.Fatal(err)
	}
	return api.LinkKey{Index: index, Key: api.Key(b)}
}

// 6.3 and 6.4: codes that another program computed of headers that were written by hand
func TestKnownCodes(t *testing.T) {
	for _, x := range []struct {
		key  api.LinkKey
		f    api.Frame
		want string
	}{
		{knownKey(t, 2, "000102030405060708090a0b0c0d0e0f"), change(data(short(5)), func(f *api.Frame) { f.Counter = 10 }), "7dee04d2"},
		{knownKey(t, 255, "f0e1d2c3b4a5968778695a4b3c2d1e0f"), api.Frame{Kind: api.FrameCommand, AckRequest: true, Pending: true, Seq: 255, Pan: 0xabcd, Dst: long(0x0102030405060708), Src: long(0x1112131415161718), Counter: 0xfffffffe}, "fc7ddfac"},
		{knownKey(t, 0, "00000000000000000000000000000000"), api.Frame{Kind: api.FrameData, Pan: 0x1234, Dst: short(api.Broadcast), Src: long(1), Payload: []byte{0xaa}}, "d2d4d972"},
		{knownKey(t, 128, "00112233445566778899aabbccddeeff"), api.Frame{Kind: api.FrameCommand, Seq: 0x7f, Dst: long(0x8000000000000001), Src: short(0xfffe), Counter: 0x7fffffff, Payload: []byte{2, 1, 2, 3, 4}}, "71ea6c7f"},
	} {
		g := api.Guard{Keys: []api.LinkKey{x.key}, Counter: x.f.Counter, Reserved: math.MaxUint32, Nonce: 0x01020304}
		want := x.f
		want.Secure, want.Key = true, x.key.Index
		want.MIC, _ = hex.DecodeString(x.want)
		x.f.Counter = 0
		if _, f, e := guard.Seal(g, x.f, x.key.Index); e != api.OK || !sameFrame(f, want) {
			t.Errorf("%+v %v, not %+v", f, e, want)
		}
		g.Peers = []api.Peer{peer(x.f.Src, x.key.Index, want.Counter^1)}
		if _, e := guard.Open(g, want); e != api.OK {
			t.Errorf("%+v: %v", want, e)
		}
	}
}

// 6.3
func TestSeal(t *testing.T) {
	for _, counters := range [][2]uint32{{0, 1}, {0, math.MaxUint32}, {10, 11}, {10, 1000}, {1 << 31, 1<<31 + 1}, {math.MaxUint32 - 1, math.MaxUint32}} {
		for _, k := range keys() {
			for _, f := range someFrames() {
				g := changed(with(peer(short(5), 2, 3)), func(g *api.Guard) { g.Counter, g.Reserved = counters[0], counters[1] })
				next, got, e := guard.Seal(g, f, k.Index)
				want := g
				want.Counter++
				if e != api.OK || !same(next, want) || !sameFrame(got, sign(f, counters[0], k)) {
					t.Errorf("%+v %+v: %+v %+v %v", g, f, next, got, e)
				}
				if !guard.Valid(next) || !frame.Valid(got) {
					t.Errorf("%+v %+v: the results are not valid", g, f)
				}
			}
		}
	}
}

// 6.3: frames up to the greatest length, and beyond it
func TestSealLongFrames(t *testing.T) {
	const added = 9 // Counter, Key and MIC
	for _, f := range someFrames() {
		f.Payload = nil
		for n := range frame.Room(f) + 1 {
			f.Payload = bytes.Repeat([]byte{7}, n)
			want := api.OK
			if frame.Room(f) < added {
				want = api.ErrLimit
			}
			next, got, e := guard.Seal(with(), f, 9)
			if e != want || (e == api.OK) != (frame.Size(got) == frame.Size(f)+added) {
				t.Errorf("%+v: %v, not %v", f, e, want)
			}
			if e != api.OK && (!same(next, api.Guard{}) || !sameFrame(got, api.Frame{})) {
				t.Errorf("%+v: %+v %+v", f, next, got)
			}
		}
		f.Payload = append(f.Payload, 7)
		if _, _, e := guard.Seal(with(), f, 9); e != api.ErrInvalid {
			t.Errorf("a frame that is too long by itself: %v", e)
		}
	}
}

// 6.3: the order of the errors
func TestErrorsOfSeal(t *testing.T) {
	good := data(short(5))
	full := change(good, func(f *api.Frame) { f.Payload = make([]byte, 3+frame.Room(good)) })
	signed := sign(good, 10, keys()[0])
	frames := map[string]api.Frame{"good": good, "full": full, "none": {}, "ack": {Kind: api.FrameAck, Seq: 1}, "secure": signed, "no code": change(signed, func(f *api.Frame) { f.MIC = nil }),
		"code alone": change(signed, func(f *api.Frame) { f.Secure, f.Counter, f.Key = false, 0, 0 }), "counter alone": change(good, func(f *api.Frame) { f.Counter = 1 }), "no sender": data(api.Addr{}), "all send": data(short(api.Broadcast)),
		"huge": change(good, func(f *api.Frame) { f.Payload = make([]byte, 100000) }), "odd kind": change(good, func(f *api.Frame) { f.Kind = math.MinInt })}
	for name, f := range frames {
		for counter := uint32(998); counter <= 1001; counter++ {
			for key := range 256 {
				g := changed(with(), func(g *api.Guard) { g.Counter = counter })
				want := api.OK
				switch {
				case counter == 1001 || name != "good" && name != "full":
					want = api.ErrInvalid
				case key != 2 && key != 9 && key != 200:
					want = api.ErrMissing
				case counter == 1000:
					want = api.ErrState
				case name == "full":
					want = api.ErrLimit
				}
				next, got, e := guard.Seal(g, f, uint8(key))
				if e != want || e != api.OK && (!same(next, api.Guard{}) || !sameFrame(got, api.Frame{})) {
					t.Errorf("%s, the counter %d, the key %d: %v, not %v", name, counter, key, e, want)
				}
			}
		}
	}
	for _, g := range []api.Guard{{}, {Reserved: 5}, {Keys: []api.LinkKey{{Index: 1}}, Reserved: 5}} {
		if _, _, e := guard.Seal(g, good, 0); e != api.ErrMissing {
			t.Errorf("%+v: %v", g, e)
		}
	}
}

// model is what 6.4 says of a peer: the greatest counter, and the counters that are used. All before the first one are, unless it is said that none of them is.
type model struct {
	first, last int64
	used        map[int64]bool
}

// isUsed reports whether the counter is used.
func (m model) isUsed(c int64) bool {
	return c <= m.first || m.used[c]
}

// take reports whether a frame with this counter is accepted, and marks it.
func (m *model) take(c int64) bool {
	if c <= m.last && (m.last-c >= 32 || m.isUsed(c)) {
		return false
	}
	m.last = max(m.last, c)
	m.used[c] = true
	return true
}

// window returns the Window of 6.4.
func (m model) window() uint32 {
	w := uint32(0)
	for i := range 32 {
		if m.isUsed(m.last - int64(i)) {
			w |= 1 << i
		}
	}
	return w
}

// checkOpen fails if the result of Open is another one.
func checkOpen(t *testing.T, g api.Guard, f api.Frame, want api.Guard, error api.Errno) {
	t.Helper()
	if got, e := guard.Open(g, f); e != error || !same(got, want) {
		t.Fatalf("%+v\nOpen of %+v:\n%+v %v, not\n%+v %v", g, f, got, e, want, error)
	}
}

// 6.4: the examples
func TestOpenExamples(t *testing.T) {
	k := keys()[0]
	state := func(last, window uint32) api.Guard {
		return with(api.Peer{Src: short(5), Key: 2, Last: last, Window: window})
	}
	checkOpen(t, state(10, 1), sign(data(short(5)), 12, k), state(12, 5), api.OK)
	checkOpen(t, state(12, 5), sign(data(short(5)), 12, k), api.Guard{}, api.ErrReplay)
	checkOpen(t, state(12, 5), sign(data(short(5)), 11, k), state(12, 7), api.OK)
	checkOpen(t, state(12, 7), sign(data(short(6)), 13, k), api.Guard{}, api.ErrState)
}

// 6.4: each distance of a counter from the last one, before and after it, with windows of one bit, of all but one, and others
func TestOpenAtEachDistance(t *testing.T) {
	windows := []uint32{1, math.MaxUint32, 0x55555555, 0xaaaaaaab, 0xffff0001}
	for i := range 32 {
		windows = append(windows, 1|1<<i, (math.MaxUint32-1<<i)|1)
	}
	f := command(long(7), 9, 9)
	for _, last := range []int64{0, 1, 31, 32, 33, 1000, 1<<31 - 1, 1 << 31, 1<<32 - 34, 1<<32 - 33, 1<<32 - 32, 1<<32 - 2, 1<<32 - 1} {
		for distance := int64(-70); distance <= 70; distance++ {
			counter := last + distance
			if counter < 0 || counter > 1<<32-1 {
				continue
			}
			signed := sign(f, uint32(counter), keys()[1])
			for _, window := range windows {
				p := api.Peer{Src: f.Src, Key: 9, Last: uint32(last), Window: window}
				others := []api.Peer{peer(short(7), 9, 1), peer(long(7), 2, 5), p, peer(long(7), 200, 6), peer(long(8), 9, 7)}
				want, error := api.Guard{}, api.ErrReplay
				if distance > 0 || distance > -32 && window>>-distance&1 == 0 {
					error = api.OK
					want = changed(with(others...), func(g *api.Guard) {
						g.Peers[2].Last = uint32(max(counter, last))
						if distance > 0 {
							g.Peers[2].Window = uint32(uint64(window)<<min(distance, 32)) | 1
						} else {
							g.Peers[2].Window |= 1 << -distance
						}
					})
				}
				checkOpen(t, with(others...), signed, want, error)
			}
		}
	}
}

// 6.4: greater differences
func TestOpenFarCounters(t *testing.T) {
	edges := []uint32{0, 1, 40, 1 << 16, 1<<31 - 1, 1 << 31, 1<<31 + 1, math.MaxUint32 - 40, math.MaxUint32}
	for _, last := range edges {
		for _, counter := range edges {
			for _, window := range []uint32{1, 3, math.MaxUint32} {
				if max(last, counter)-min(last, counter) < 33 {
					continue
				}
				p := api.Peer{Src: short(5), Key: 200, Last: last, Window: window}
				want, error := api.Guard{}, api.ErrReplay
				if counter > last {
					want, error = with(peer(short(5), 200, counter)), api.OK
				}
				checkOpen(t, with(p), sign(data(short(5)), counter, keys()[2]), want, error)
			}
		}
	}
}

// 6.4: walks of counters, from a new peer on and from a peer with an empty window on
func TestOpenAgainstModel(t *testing.T) {
	r := rand.New(rand.NewSource(64))
	steps := []int64{0, 1, 2, 3, 30, 31, 32, 33, 64}
	for walk := range 600 {
		start := []int64{0, 20, 1 << 31, 1<<32 - 200}[walk%4]
		m := model{first: start, last: start, used: map[int64]bool{}}
		g := api.Guard{Keys: keys(), Nonce: 3}
		next, e := guard.Open(g, sign(command(short(5), 2, 0, 0, 0, 3), uint32(start), keys()[0]))
		if walk%8 >= 4 {
			m.first, m.used[start] = -1<<40, true
			next, e = changed(g, func(g *api.Guard) { g.Peers = []api.Peer{peer(short(5), 2, uint32(start))} }), api.OK
		}
		for range 100 {
			if p := (api.Peer{Src: short(5), Key: 2, Last: uint32(m.last), Window: m.window()}); e != api.OK || !same(next, changed(g, func(g *api.Guard) { g.Peers = []api.Peer{p} })) {
				t.Fatalf("walk %d: %+v %v, not %+v", walk, next, e, p)
			}
			c := m.last + steps[r.Intn(len(steps))]*int64(1-2*r.Intn(2))
			if c < 0 || c > 1<<32-1 {
				continue
			}
			after, error := guard.Open(next, sign(data(short(5)), uint32(c), keys()[0]))
			switch {
			case !m.take(c) && (error != api.ErrReplay || !same(after, api.Guard{})):
				t.Fatalf("walk %d: the counter %d at %+v: %+v %v", walk, c, next, after, error)
			case error == api.OK:
				next = after
			}
		}
	}
}

// 6.4: frames that are not valid, not secure, or have no code that a key of the guard gives
func TestOpenRefusesForgeries(t *testing.T) {
	g := with(peer(short(5), 2, 10), peer(short(5), 9, 10))
	good := sign(data(short(5)), 20, keys()[0])
	refuse := func(want api.Errno, edit func(f *api.Frame)) {
		t.Helper()
		checkOpen(t, g, change(good, edit), api.Guard{}, want)
	}
	refuse(api.ErrInvalid, func(f *api.Frame) { *f = api.Frame{} })
	refuse(api.ErrInvalid, func(f *api.Frame) { *f = data(short(5)) })
	refuse(api.ErrInvalid, func(f *api.Frame) { *f = api.Frame{Kind: api.FrameAck} })
	refuse(api.ErrInvalid, func(f *api.Frame) { f.Kind = api.FrameAck })
	refuse(api.ErrInvalid, func(f *api.Frame) { f.Kind = math.MaxInt })
	refuse(api.ErrInvalid, func(f *api.Frame) { f.Secure = false })
	refuse(api.ErrInvalid, func(f *api.Frame) { f.MIC = nil })
	refuse(api.ErrInvalid, func(f *api.Frame) { f.MIC = f.MIC[:3] })
	refuse(api.ErrInvalid, func(f *api.Frame) { f.MIC = append(f.MIC, 0) })
	refuse(api.ErrInvalid, func(f *api.Frame) { f.MIC, _ = siphash.Tag(keys()[0].Key, plainHeader(*f), 8) })
	refuse(api.ErrInvalid, func(f *api.Frame) { f.Src = short(api.Broadcast) })
	refuse(api.ErrInvalid, func(f *api.Frame) { f.Payload = make([]byte, 127) })
	for key := range 256 {
		want := api.ErrMissing
		if key == 9 || key == 200 {
			want = api.ErrKey
		}
		if key != 2 {
			refuse(want, func(f *api.Frame) { f.Key = uint8(key) })
		}
	}
	refuse(api.ErrKey, func(f *api.Frame) { f.Seq++ })
	refuse(api.ErrKey, func(f *api.Frame) { f.Src = short(6) })
	refuse(api.ErrKey, func(f *api.Frame) { f.Counter = 5 })
	refuse(api.ErrKey, func(f *api.Frame) { *f = sign(*f, 20, api.LinkKey{Index: 2, Key: keys()[1].Key}) })
	refuse(api.ErrKey, func(f *api.Frame) { *f = sign(*f, 20, api.LinkKey{Index: 9, Key: keys()[0].Key}) })
}

// 6.4 and 6.7: each changed bit of a sealed frame
func TestOpenFindsEachChangedBit(t *testing.T) {
	for _, f := range someFrames() {
		peers := []api.Peer{peer(f.Src, 2, 10), peer(f.Src, 9, 10)}
		good := sign(f, 20, keys()[1])
		b, e := frame.Encode(good)
		if e != api.OK {
			t.Fatal(e)
		}
		for bit := range 8 * (len(b) - 2) {
			bad := bytes.Clone(b[:len(b)-2])
			bad[bit/8] ^= 1 << (bit % 8)
			forged, e := frame.Decode(withCRC(bad))
			if e != api.OK {
				continue
			}
			g := with(peers...)
			if forged.Src != f.Src && frame.Valid(forged) {
				g.Peers = append(g.Peers, peer(forged.Src, forged.Key, 10))
				slices.SortFunc(g.Peers, func(a, b api.Peer) int { return slices.Compare(senderOf(a), senderOf(b)) })
			}
			want := api.ErrKey
			if !slices.ContainsFunc(keys(), func(k api.LinkKey) bool { return k.Index == forged.Key }) {
				g.Peers = peers
				want = api.ErrMissing
			}
			if !forged.Secure {
				g.Peers = peers
				want = api.ErrInvalid
			}
			checkOpen(t, g, forged, api.Guard{}, want)
		}
	}
}

// senderOf returns numbers by which peers are ordered.
func senderOf(p api.Peer) []uint64 {
	return []uint64{uint64(p.Src.Mode), uint64(p.Src.Short), uint64(p.Src.EUI), uint64(p.Key)}
}

// withCRC returns the bytes of b followed by their CRC, bit by bit as 2.4 and 2.5 say.
func withCRC(b []byte) []byte {
	crc := uint16(0)
	for _, x := range b {
		for i := range 8 {
			out := (crc ^ uint16(x>>i)) & 1
			crc = crc>>1 ^ out*0x8408
		}
	}
	return append(bytes.Clone(b), byte(crc), byte(crc>>8))
}

// 6.4: the order of the errors
func TestErrorsOfOpen(t *testing.T) {
	src, response := short(5), []byte{2, 0x0a, 0x0b, 0x0c, 0x0d}
	others := someSenders()[15:]
	for bits := range 1 << 9 {
		has := func(i int) bool { return bits>>i&1 != 0 }
		invalid, insecure, missing, forged, known := has(0), has(1), has(2), has(3), has(4)
		replayed, wrongKind, wrongPayload, full := has(5), has(6), has(7), has(8)
		f := command(src, response...)
		if wrongKind {
			f.Kind = api.FrameData
		}
		if wrongPayload {
			f.Payload = []byte{2, 0x0a, 0x0b, 0x0c, 0x0e}
		}
		counter := uint32(12)
		if replayed {
			counter = 10
		}
		k := keys()[0]
		if missing {
			k.Index = 3
		}
		f = sign(f, counter, k)
		if forged {
			f.MIC[3]++
		}
		if insecure {
			f.Secure, f.Counter, f.Key, f.MIC = false, 0, 0, nil
		}
		g := with()
		if known {
			g.Peers = append(g.Peers, peer(src, 2, 10))
		}
		count := 3
		if full {
			count = api.MaxPeers - len(g.Peers)
		}
		g.Peers = append(g.Peers, others[:count]...)
		if invalid {
			g.Counter = 1001
		}
		want := api.OK
		switch {
		case invalid || insecure:
			want = api.ErrInvalid
		case missing:
			want = api.ErrMissing
		case forged:
			want = api.ErrKey
		case known && replayed:
			want = api.ErrReplay
		case !known && (wrongKind || wrongPayload):
			want = api.ErrState
		case !known && full:
			want = api.ErrFull
		}
		if next, e := guard.Open(g, f); e != want || e != api.OK && !same(next, api.Guard{}) || e == api.OK && !guard.Valid(next) {
			t.Errorf("%09b: %v, not %v", bits, e, want)
		}
	}
}

// 6.4: a new peer gets the place that keeps peers in order.
func TestOpenNewPeer(t *testing.T) {
	all := someSenders()
	r := rand.New(rand.NewSource(65))
	for range 3000 {
		var peers []api.Peer
		for _, at := range r.Perm(len(all))[:r.Intn(api.MaxPeers)] {
			peers = append(peers, all[at])
		}
		slices.SortFunc(peers, func(a, b api.Peer) int { return slices.Compare(senderOf(a), senderOf(b)) })
		p := all[r.Intn(len(all))]
		if slices.Contains(peers, p) {
			continue
		}
		p.Last, p.Window = []uint32{0, 1, 31, 32, 77, 1 << 31, math.MaxUint32}[r.Intn(7)], math.MaxUint32
		k := keys()[slices.IndexFunc(keys(), func(k api.LinkKey) bool { return k.Index == p.Key })]
		want := with(append(slices.Clone(peers), p)...)
		slices.SortFunc(want.Peers, func(a, b api.Peer) int { return slices.Compare(senderOf(a), senderOf(b)) })
		checkOpen(t, with(peers...), sign(command(p.Src, 2, 10, 11, 12, 13), p.Last, k), want, api.OK)
	}
}

// 6.4: all counters up to the first one of a new peer count as used, and no other.
func TestOpenAfterNewPeer(t *testing.T) {
	k := keys()[0]
	for _, first := range []uint32{0, 1, 30, 31, 32, 33, 100, math.MaxUint32 - 1, math.MaxUint32} {
		g, e := guard.Open(with(), sign(command(short(5), 2, 10, 11, 12, 13), first, k))
		if e != api.OK {
			t.Fatal(e)
		}
		for distance := range uint32(41) {
			if distance <= first {
				checkOpen(t, g, sign(data(short(5)), first-distance, k), api.Guard{}, api.ErrReplay)
			}
			if counter := first + distance; counter > first {
				window := uint32(math.MaxUint32)
				if distance > 1 {
					window = uint32(uint64(math.MaxUint32)<<min(distance, 32)) | 1
				}
				checkOpen(t, g, sign(data(short(5)), counter, k), with(api.Peer{Src: short(5), Key: 2, Last: counter, Window: window}), api.OK)
			}
		}
	}
}

// 6.4: a sender with another key is another peer.
func TestOpenSameSenderOtherKey(t *testing.T) {
	first := api.Peer{Src: short(5), Key: 9, Last: 50, Window: 1}
	for _, k := range []api.LinkKey{keys()[0], keys()[2]} {
		checkOpen(t, with(first), sign(data(short(5)), 60, k), api.Guard{}, api.ErrState)
		added := api.Peer{Src: short(5), Key: k.Index, Last: 7, Window: math.MaxUint32}
		want := with(first, added)
		if k.Index < 9 {
			want = with(added, first)
		}
		response := command(short(5), 2, 10, 11, 12, 13)
		checkOpen(t, with(first), sign(response, 7, k), want, api.OK)
		checkOpen(t, want, sign(response, 7, k), api.Guard{}, api.ErrReplay)
		// The counter of one key does not count for the other one.
		after := changed(want, func(g *api.Guard) {
			at := slices.Index(g.Peers, first)
			g.Peers[at].Window = 1 | 1<<10
		})
		checkOpen(t, want, sign(data(short(5)), 40, keys()[1]), after, api.OK)
		checkOpen(t, want, sign(data(short(5)), 6, k), api.Guard{}, api.ErrReplay)
	}
	// A long address with the same number is another sender, too.
	checkOpen(t, with(peer(short(5), 2, 1)), sign(data(long(5)), 60, keys()[0]), api.Guard{}, api.ErrState)
	// A known sender need not answer, but may: its response counts as any other frame.
	checkOpen(t, with(peer(short(5), 2, 1)), sign(command(short(5), 2, 10, 11, 12, 13), 2, keys()[0]), with(api.Peer{Src: short(5), Key: 2, Last: 2, Window: 3}), api.OK)
}

// someNonces are nonces with different bytes, and the least and the greatest.
func someNonces() []uint32 {
	return []uint32{0, 1, 0xff, 0x100, 0x01020304, 0x04030201, 0x7fffffff, 0x80000000, 0xfffefdfc, math.MaxUint32}
}

// 6.5
func TestChallenge(t *testing.T) {
	for _, nonce := range someNonces() {
		bytesOf := binary.BigEndian.AppendUint32(nil, nonce)
		for _, g := range []api.Guard{{}, with(), with(peer(short(1), 2, 3))} {
			g.Nonce = nonce
			if got := guard.Challenge(g); !bytes.Equal(got, append([]byte{1}, bytesOf...)) {
				t.Errorf("%+v: % x", g, got)
			}
		}
		if got, ok := guard.Respond(append([]byte{1}, bytesOf...)); !ok || !bytes.Equal(got, append([]byte{2}, bytesOf...)) {
			t.Errorf("%08x: % x %t", nonce, got, ok)
		}
	}
}

// 6.5: what is not a challenge has no response.
func TestRespondToOthers(t *testing.T) {
	for n := range 20 {
		for first := range 256 {
			b := bytes.Repeat([]byte{byte(first)}, n)
			for _, c := range []byte{0, 1, 2, byte(first)} {
				for i := 1; i < n; i++ {
					b[i] = c
				}
				got, ok := guard.Respond(b)
				want := n == 5 && first == 1
				if ok != want || ok == (len(got) == 0) {
					t.Errorf("% x: % x %t", b, got, ok)
				}
			}
		}
	}
	for _, b := range [][]byte{nil, {}, {1}, {1, 1, 2, 3}, {1, 1, 2, 3, 4, 5}, {1, 1, 2, 3, 4, 0}, {0, 1, 1, 2, 3, 4}, {2, 1, 2, 3, 4}, append([]byte{1}, make([]byte, 100000)...)} {
		if got, ok := guard.Respond(b); ok || len(got) != 0 {
			t.Errorf("%d bytes: % x %t", len(b), got, ok)
		}
	}
}

// 6.4 and 6.5: only the response to the nonce of the guard, in a command, makes a sender a peer.
func TestOpenNeedsTheResponse(t *testing.T) {
	for _, nonce := range someNonces() {
		g := changed(with(peer(short(5), 2, 10)), func(g *api.Guard) { g.Nonce = nonce })
		response, ok := guard.Respond(guard.Challenge(g))
		if !ok {
			t.Fatal(nonce)
		}
		good := command(short(7), response...)
		want := changed(g, func(g *api.Guard) {
			g.Peers = append(g.Peers, api.Peer{Src: short(7), Key: 200, Last: 9, Window: math.MaxUint32})
		})
		checkOpen(t, g, sign(good, 9, keys()[2]), want, api.OK)
		refuse := func(f api.Frame) {
			t.Helper()
			checkOpen(t, g, sign(f, 9, keys()[2]), api.Guard{}, api.ErrState)
		}
		refuse(change(good, func(f *api.Frame) { f.Kind = api.FrameData }))
		refuse(command(short(7), guard.Challenge(g)...))
		refuse(command(short(7), append(bytes.Clone(response), 0)...))
		for n := range response {
			refuse(command(short(7), response[:n]...))
			refuse(command(short(7), response[n+1:]...))
			for i := range 8 {
				refuse(change(good, func(f *api.Frame) { f.Payload[n] ^= 1 << i }))
			}
		}
		for _, other := range someNonces() {
			if other != nonce {
				checkOpen(t, changed(g, func(g *api.Guard) { g.Nonce = other }), sign(good, 9, keys()[2]), api.Guard{}, api.ErrState)
			}
		}
	}
}

// 6.6
func TestRestart(t *testing.T) {
	for _, nonce := range someNonces() {
		for _, counters := range [][2]uint32{{0, 0}, {0, 1}, {10, 1000}, {1000, 1000}, {0, math.MaxUint32}, {math.MaxUint32, math.MaxUint32}} {
			g := changed(with(peer(short(5), 2, 10), peer(long(5), 9, 10)), func(g *api.Guard) { g.Counter, g.Reserved = counters[0], counters[1] })
			got := guard.Restart(g, nonce)
			if !same(got, api.Guard{Keys: keys(), Counter: counters[1], Reserved: counters[1], Nonce: nonce}) || !guard.Valid(got) {
				t.Errorf("%d %v: %+v", nonce, counters, got)
			}
			if !same(guard.Restart(got, nonce), got) {
				t.Errorf("%d %v: a second restart", nonce, counters)
			}
		}
	}
}

// 6.6 and 6.7: after a restart nothing is sealed until more counters are reserved, and the frames from before it are refused.
func TestFramesFromBeforeARestart(t *testing.T) {
	k := keys()[0]
	response := command(short(5), 2, 10, 11, 12, 13)
	first := sign(response, 20, k)
	before := []api.Frame{sign(data(short(5)), 19, k), first, sign(data(short(5)), 21, k), sign(data(short(5)), 52, k), sign(data(short(5)), 53, k)}
	g := with()
	for _, f := range before[1:] {
		next, e := guard.Open(g, f)
		if e != api.OK {
			t.Fatal(e)
		}
		g = next
	}
	g = guard.Restart(g, 0x0a0b0c0e)
	if _, _, e := guard.Seal(g, data(short(1)), 2); e != api.ErrState {
		t.Errorf("Seal after a restart: %v", e)
	}
	for _, f := range before {
		checkOpen(t, g, f, api.Guard{}, api.ErrState)
	}
	again, e := guard.Open(g, sign(command(short(5), 2, 10, 11, 12, 14), 54, k))
	if e != api.OK {
		t.Fatal(e)
	}
	for _, f := range before {
		checkOpen(t, again, f, api.Guard{}, api.ErrReplay)
	}
	// The old response does not help either if the nonce comes back, as long as the new one has a greater counter.
	back := guard.Restart(again, 0x0a0b0c0d)
	known, e := guard.Open(back, sign(response, 55, k))
	if e != api.OK {
		t.Fatal(e)
	}
	for _, f := range before {
		checkOpen(t, known, f, api.Guard{}, api.ErrReplay)
	}
	g, e = guard.Reserve(g, 1)
	if e != api.OK {
		t.Fatal(e)
	}
	if next, f, e := guard.Seal(g, data(short(1)), 2); e != api.OK || f.Counter != 1000 || next.Counter != 1001 {
		t.Errorf("Seal after a restart with more counters: %+v %+v %v", next, f, e)
	}
}

// link is a sender and a receiver with what a history has shown of them.
type link struct {
	sender, receiver api.Guard
	stored           uint32 // what the sender has stored of Reserved
	sealed           []api.Frame
	accepted         map[uint32]bool
	counters         map[uint32]bool
	nonce            uint32
}

// seal sends a frame, after a restart of the sender or a reservation if the numbers say so.
func (l *link) seal(t *testing.T, r *rand.Rand) {
	switch r.Intn(20) {
	case 0:
		l.sender = guard.Restart(changed(l.sender, func(g *api.Guard) { g.Reserved = l.stored }), r.Uint32())
	case 1, 2, 3:
		next, e := guard.Reserve(l.sender, uint32(1+r.Intn(10)))
		if e != api.OK {
			t.Fatal(e)
		}
		l.sender, l.stored = next, next.Reserved
	}
	f := data(short(5))
	if r.Intn(4) == 0 {
		f = command(short(5))
		f.Payload, _ = guard.Respond(guard.Challenge(l.receiver))
	}
	next, f, e := guard.Seal(l.sender, f, 2)
	if e == api.ErrState {
		return
	}
	if e != api.OK || l.counters[f.Counter] {
		t.Fatalf("%v, or the counter %d was used before", e, f.Counter)
	}
	l.counters[f.Counter] = true
	l.sender = next
	l.sealed = append(l.sealed, f)
}

// open receives any frame that was sent, after a restart of the receiver if the numbers say so.
func (l *link) open(t *testing.T, r *rand.Rand) {
	if r.Intn(100) == 0 {
		l.nonce++
		l.receiver = guard.Restart(l.receiver, l.nonce)
	}
	if len(l.sealed) == 0 {
		return
	}
	f := l.sealed[max(0, len(l.sealed)-1-r.Intn(50))]
	forged := change(f, func(f *api.Frame) { f.MIC[r.Intn(4)] ^= 1 << r.Intn(8) })
	if _, e := guard.Open(l.receiver, forged); e != api.ErrKey {
		t.Fatalf("a forged frame: %v", e)
	}
	next, e := guard.Open(l.receiver, f)
	if e != api.OK {
		return
	}
	// A response that starts after all that was accepted is what 6.7 requires of a sender that is a peer again.
	if len(l.receiver.Peers) == 0 {
		for c := range l.accepted {
			if c >= f.Counter {
				return
			}
		}
	}
	if l.accepted[f.Counter] {
		t.Fatalf("the frame %d was accepted twice", f.Counter)
	}
	l.accepted[f.Counter] = true
	l.receiver = next
}

// 6.7
func TestHistories(t *testing.T) {
	r := rand.New(rand.NewSource(67))
	accepted := 0
	for range 200 {
		l := link{sender: api.Guard{Keys: keys()}, receiver: api.Guard{Keys: keys()}, accepted: map[uint32]bool{}, counters: map[uint32]bool{}}
		for range 300 {
			l.seal(t, r)
			l.open(t, r)
		}
		accepted += len(l.accepted)
	}
	if accepted < 10000 {
		t.Errorf("only %d frames were accepted", accepted)
	}
}

// roomy returns list in memory that goes on behind its end with two more of its first element.
func roomy[E any](list ...E) []E {
	return append(slices.Clone(list), list[0], list[0])[:len(list)]
}

// wide returns g with memory behind its lists.
func wide(g api.Guard) api.Guard {
	g.Keys, g.Peers = roomy(g.Keys...), roomy(g.Peers...)
	return g
}

// isWide reports whether g is wide(want) still.
func isWide(g, want api.Guard) bool {
	w := wide(want)
	return same(g, want) && slices.Equal(g.Keys[:len(w.Keys)+2], w.Keys[:len(w.Keys)+2]) && slices.Equal(g.Peers[:len(w.Peers)+2], w.Peers[:len(w.Peers)+2])
}

// spoil changes all lists of g, and the memory behind them.
func spoil(g api.Guard) {
	for i := range g.Keys[:cap(g.Keys)] {
		g.Keys[:cap(g.Keys)][i].Index ^= 0xff
	}
	for i := range g.Peers[:cap(g.Peers)] {
		g.Peers[:cap(g.Peers)][i].Last ^= 0xff
	}
}

// R3
func TestMemory(t *testing.T) {
	base := with(peer(short(3), 2, 1), peer(short(9), 9, 2))
	answer := sign(command(short(5), 2, 10, 11, 12, 13), 9, keys()[0])
	calls := map[string]func(g api.Guard, f api.Frame) (api.Guard, api.Frame){
		"Reserve": func(g api.Guard, f api.Frame) (api.Guard, api.Frame) {
			next, _ := guard.Reserve(g, 5)
			return next, api.Frame{}
		},
		"Seal": func(g api.Guard, f api.Frame) (api.Guard, api.Frame) {
			next, sealed, _ := guard.Seal(g, change(f, func(f *api.Frame) { f.Payload, f.MIC = spare.With(1, 2, 3), spare.With() }), 2)
			return next, sealed
		},
		"Seal of another frame": func(g api.Guard, f api.Frame) (api.Guard, api.Frame) {
			next, sealed, _ := guard.Seal(g, f, 2)
			return next, sealed
		},
		"Open of a new peer": func(g api.Guard, f api.Frame) (api.Guard, api.Frame) {
			next, _ := guard.Open(g, answer)
			return next, api.Frame{}
		},
		"Open of a known peer": func(g api.Guard, f api.Frame) (api.Guard, api.Frame) {
			next, _ := guard.Open(g, sign(data(short(9)), 40, keys()[1]))
			return next, api.Frame{}
		},
		"Open of an old counter": func(g api.Guard, f api.Frame) (api.Guard, api.Frame) {
			next, _ := guard.Open(g, sign(data(short(9)), 1, keys()[1]))
			return next, api.Frame{}
		},
		"Restart": func(g api.Guard, f api.Frame) (api.Guard, api.Frame) {
			return guard.Restart(g, 7), api.Frame{}
		},
	}
	for name, call := range calls {
		g := wide(base)
		f := data(short(5))
		f.Payload = spare.With(7, 8, 9)
		next, sealed := call(g, f)
		if !isWide(g, base) {
			t.Errorf("%s: the guard or the memory behind it was changed", name)
		}
		spare.Check(t, f.Payload, 7, 8, 9)
		if same(next, api.Guard{}) {
			t.Errorf("%s: no result", name)
		}
		keepGuard, keepFrame := changed(next, func(*api.Guard) {}), change(sealed, func(*api.Frame) {})
		spoil(g)
		spare.Flip(f.Payload)
		if !same(next, keepGuard) || !sameFrame(sealed, keepFrame) {
			t.Errorf("%s: the result shares memory with an argument", name)
		}
		kept := changed(g, func(*api.Guard) {})
		spoil(next)
		spare.Flip(sealed.Payload)
		if !same(g, kept) || !bytes.Equal(sealed.MIC, keepFrame.MIC) {
			t.Errorf("%s: a list of the result shares memory", name)
		}
	}
}

// R3: frames and payloads
func TestMemoryOfBytes(t *testing.T) {
	f := sign(data(short(5)), 12, keys()[0])
	mic := bytes.Clone(f.MIC)
	f.Payload, f.MIC = spare.With(f.Payload...), spare.With(f.MIC...)
	if _, e := guard.Open(with(peer(short(5), 2, 10)), f); e != api.OK {
		t.Error(e)
	}
	spare.Check(t, f.Payload, 1, 2, 3)
	spare.Check(t, f.MIC, mic...)
	f.Secure = false
	guard.Seal(with(), f, 2)
	spare.Check(t, f.Payload, 1, 2, 3)
	spare.Check(t, f.MIC, mic...)

	challenge := spare.With(1, 5, 6, 7, 8)
	response, _ := guard.Respond(challenge)
	spare.Check(t, challenge, 1, 5, 6, 7, 8)
	spare.Flip(response)
	spare.Check(t, challenge, 1, 5, 6, 7, 8)
	first, second := guard.Challenge(with()), guard.Challenge(with())
	spare.Flip(first)
	if !bytes.Equal(second, []byte{1, 10, 11, 12, 13}) {
		t.Errorf("% x", second)
	}
}

// R4
func TestEmptyLists(t *testing.T) {
	empty := api.Guard{Keys: []api.LinkKey{}, Peers: []api.Peer{}}
	checkValid(t, empty)
	checkValid(t, api.Guard{})
	f := command(short(5))
	f.Payload, f.MIC = []byte{}, []byte{}
	g := with(peer(short(5), 9, 1))
	_, sealed, e := guard.Seal(g, f, 9)
	if e != api.OK || !sameFrame(sealed, sign(command(short(5)), 10, keys()[1])) {
		t.Errorf("%+v %v", sealed, e)
	}
	if sealed.Payload = nil; fmt.Sprint(guard.Open(g, sealed)) != fmt.Sprint(guard.Open(g, change(sealed, func(f *api.Frame) { f.Payload = []byte{} }))) {
		t.Error("a payload of no bytes and none are different")
	}
	if _, e := guard.Open(g, sealed); e != api.OK {
		t.Error(e)
	}
}
