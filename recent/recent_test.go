package recent_test

import (
	"math"
	"math/rand"
	"slices"
	"testing"

	"multihop/api"
	"multihop/recent"
)

func short(x api.Short) api.Addr {
	return api.Addr{Mode: api.AddrShort, Short: x}
}

func long(x api.EUI) api.Addr {
	return api.Addr{Mode: api.AddrLong, EUI: x}
}

func seen(src api.Addr, seq uint8, until int) api.Seen {
	return api.Seen{Src: src, Seq: seq, Until: until}
}

// list returns n entries of different frames, each with this Until.
func list(n, until int) []api.Seen {
	var out []api.Seen
	for i := range n {
		out = append(out, seen(short(api.Short(100+i%7)), uint8(i), until))
	}
	return out
}

// changed returns l after an edit of a copy.
func changed(l []api.Seen, edit func(l []api.Seen)) []api.Seen {
	l = slices.Clone(l)
	edit(l)
	return l
}

// noSenders are addresses that no entry can have.
func noSenders() []api.Addr {
	return []api.Addr{
		{},
		{Short: 1}, {EUI: 1}, {Short: 1, EUI: 1},
		{Mode: 1}, {Mode: 1, Short: 1}, {Mode: 4}, {Mode: 4, EUI: 1}, {Mode: -1}, {Mode: -2, Short: 2}, {Mode: math.MaxInt}, {Mode: math.MinInt}, {Mode: 256 + api.AddrShort},
		{Mode: api.AddrShort, EUI: 1}, {Mode: api.AddrShort, Short: 1, EUI: 1}, {Mode: api.AddrShort, Short: 1, EUI: 1 << 63},
		{Mode: api.AddrLong, Short: 1}, {Mode: api.AddrLong, Short: 1, EUI: 1}, {Mode: api.AddrLong, Short: 0x8000, EUI: 1},
	}
}

// senders are different addresses that an entry can have.
func senders() []api.Addr {
	return []api.Addr{
		short(0), short(1), short(2), short(0x100), short(0x7fff), short(0x8000), short(0xfffe), short(api.Broadcast),
		long(0), long(1), long(2), long(0x100), long(0xffff), long(1 << 16), long(1 << 32), long(1 << 63), long(math.MaxUint64),
	}
}

// noTimes and times are numbers outside of 0 to MaxTime, and inside.
func noTimes() []int {
	return []int{-1, -2, -api.SeenTime, -api.MaxTime, math.MinInt32, math.MinInt + 1, math.MinInt, api.MaxTime + 1, api.MaxTime + api.SeenTime, math.MaxInt - api.SeenTime, math.MaxInt}
}

func times() []int {
	return []int{0, 1, 2, api.SeenTime - 1, api.SeenTime, api.SeenTime + 1, 1 << 31, 1 << 32, api.MaxTime - api.SeenTime - 1, api.MaxTime - api.SeenTime, api.MaxTime - api.SeenTime + 1, api.MaxTime - 1, api.MaxTime}
}

// checkRecord fails if Record has another result, or has one together with an error.
func checkRecord(t *testing.T, l []api.Seen, src api.Addr, seq uint8, now int, want []api.Seen, fresh bool, error api.Errno) {
	t.Helper()
	if next, isNew, e := recent.Record(l, src, seq, now); !slices.Equal(next, want) || isNew != fresh || e != error {
		t.Errorf("Record of %v %d at %d in %v: %v %t %v, want %v %t %v", src, seq, now, l, next, isNew, e, want, fresh, error)
	}
}

// checkPrune is the same for Prune.
func checkPrune(t *testing.T, l []api.Seen, now int, want []api.Seen, error api.Errno) {
	t.Helper()
	if left, e := recent.Prune(l, now); !slices.Equal(left, want) || e != error {
		t.Errorf("Prune of %v at %d: %v %v, want %v %v", l, now, left, e, want, error)
	}
}

// checkInvalid fails if a function has a result for l, a list that is not valid, or names another error first.
func checkInvalid(t *testing.T, l []api.Seen) {
	t.Helper()
	if recent.Valid(l) {
		t.Errorf("%v is valid", l)
	}
	for _, now := range []int{0, api.MaxTime, -1, api.MaxTime + 1} {
		checkPrune(t, l, now, nil, api.ErrInvalid)
		checkRecord(t, l, short(77), 7, now, nil, false, api.ErrInvalid)
		checkRecord(t, l, api.Addr{}, 7, now, nil, false, api.ErrInvalid)
		for _, x := range l[:min(len(l), 40)] {
			if recent.Known(l, x.Src, x.Seq, now) {
				t.Errorf("%v at %d is known by a list that is not valid: %v", x, now, l)
			}
			checkRecord(t, l, x.Src, x.Seq, now, nil, false, api.ErrInvalid)
		}
	}
}

// checkValid fails if l is not valid for a function. All its entries have to end after the time 0.
func checkValid(t *testing.T, l []api.Seen) {
	t.Helper()
	if !recent.Valid(l) {
		t.Errorf("%v is not valid", l)
	}
	checkPrune(t, l, 0, l, api.OK)
	for _, x := range l {
		if !recent.Known(l, x.Src, x.Seq, 0) {
			t.Errorf("%v is not known", x)
		}
		checkRecord(t, l, x.Src, x.Seq, 0, l, false, api.OK)
	}
}

// check fails if a function takes l for valid and should not, or the other way round.
func check(t *testing.T, l []api.Seen, want bool) {
	t.Helper()
	if want {
		checkValid(t, l)
	} else {
		checkInvalid(t, l)
	}
}

// 7.1: the number of entries
func TestValidNumber(t *testing.T) {
	for n := range 2*api.MaxSeen + 2 {
		check(t, list(n, 9), n <= api.MaxSeen)
	}
	check(t, list(256, 9), false)
	checkInvalid(t, slices.Repeat(list(1, 9), 1<<16))
}

// 7.1: each Src
func TestValidSenders(t *testing.T) {
	for _, l := range [][]api.Seen{list(1, 9), list(3, 9), list(api.MaxSeen, 9)} {
		for at := range l {
			for _, a := range noSenders() {
				check(t, changed(l, func(l []api.Seen) { l[at].Src = a }), false)
			}
			for _, a := range senders() {
				check(t, changed(l, func(l []api.Seen) { l[at].Src = a }), true)
			}
		}
	}
}

// 7.1: each Until
func TestValidTimes(t *testing.T) {
	for _, l := range [][]api.Seen{list(1, 9), list(3, 9), list(api.MaxSeen, 9)} {
		for at := range l {
			for _, until := range noTimes() {
				check(t, changed(l, func(l []api.Seen) { l[at].Until = until }), false)
			}
			for _, until := range times() {
				changed := changed(l, func(l []api.Seen) { l[at].Until = until })
				if until > 0 {
					checkValid(t, changed)
				} else if !recent.Valid(changed) {
					t.Errorf("%v is not valid", changed)
				}
			}
		}
	}
}

// 7.1: two entries of the same frame
func TestValidTwice(t *testing.T) {
	for i, a := range senders() {
		for j, b := range senders() {
			for _, seqs := range [][2]uint8{{0, 0}, {0, 1}, {1, 0}, {1, 1}, {7, 7}, {7, 7 + 128}, {255, 255}, {255, 0}} {
				for _, untils := range [][2]int{{5, 5}, {5, 6}, {6, 5}} {
					check(t, []api.Seen{seen(a, seqs[0], untils[0]), seen(b, seqs[1], untils[1])}, i != j || seqs[0] != seqs[1])
				}
			}
		}
	}
	full := list(api.MaxSeen, 9)
	for i := range full {
		for j := range full {
			check(t, changed(full, func(l []api.Seen) { l[i].Src, l[i].Seq, l[i].Until = l[j].Src, l[j].Seq, 10 }), i == j)
			if l := changed(full, func(l []api.Seen) { l[i].Seq = l[j].Seq }); !recent.Valid(l) && l[i].Src != l[j].Src {
				t.Errorf("%v: only Seq is the same", l)
			}
		}
	}
	// Entries that have ended count, too.
	checkInvalid(t, []api.Seen{seen(short(1), 2, 0), seen(short(1), 2, 0)})
	checkInvalid(t, []api.Seen{seen(short(1), 2, 0), seen(short(3), 2, 9), seen(short(1), 2, 9)})
	// A list of one sender, and one of one number.
	var sender, number []api.Seen
	for i := range api.MaxSeen {
		sender = append(sender, seen(long(1), uint8(8*i), 5))
		number = append(number, seen(short(api.Short(i)), 3, 5))
	}
	checkValid(t, sender)
	checkValid(t, number)
}

// plainValid follows 7.1 in another way.
func plainValid(l []api.Seen) bool {
	frames := map[api.Seen]bool{}
	for _, x := range l {
		isShort := x.Src == short(x.Src.Short)
		isLong := x.Src == long(x.Src.EUI)
		if isShort == isLong || uint64(x.Until) > 1<<40 {
			return false
		}
		x.Until = 0
		frames[x] = true
	}
	return len(frames) == len(l) && len(l) <= 32
}

// plainPrune follows 7.2 in another way.
func plainPrune(l []api.Seen, now int) []api.Seen {
	var out []api.Seen
	for _, x := range l {
		if now < x.Until {
			out = append(out, x)
		}
	}
	return out
}

// plainRecord follows 7.4 in another way: as long as there are too many entries, it looks for one that ends at each time from the next on.
func plainRecord(l []api.Seen, src api.Addr, seq uint8, now int) ([]api.Seen, bool) {
	var out []api.Seen
	for _, x := range plainPrune(l, now) {
		if x.Src == src && x.Seq == seq {
			return plainPrune(l, now), false
		}
		out = append(out, x)
	}
	for until := now + 1; len(out) > 31; until++ {
		for i, x := range out {
			if x.Until == until {
				out = append(out[:i:i], out[i+1:]...)
				break
			}
		}
	}
	if now > 1<<40-16 {
		return append(out, seen(src, seq, 1<<40)), true
	}
	return append(out, seen(src, seq, now+16)), true
}

// randomFrame returns the sender and the number of one of a few frames.
func randomFrame(r *rand.Rand) (api.Addr, uint8) {
	return senders()[r.Intn(4)], uint8(r.Intn(20))
}

// randomList returns a list of entries that are remembered for less than 40 ticks after start, often a full one, and now and then one that is not valid.
func randomList(r *rand.Rand, start int) []api.Seen {
	size := r.Intn(api.MaxSeen + 4)
	if r.Intn(2) == 0 {
		size = api.MaxSeen
	}
	var l []api.Seen
	for len(l) < size {
		src, seq := randomFrame(r)
		x := seen(src, seq, start+r.Intn(40))
		if r.Intn(300) == 0 {
			x.Src = noSenders()[r.Intn(len(noSenders()))]
		}
		if r.Intn(300) == 0 {
			x.Until = noTimes()[r.Intn(len(noTimes()))]
		}
		twice := slices.ContainsFunc(l, func(y api.Seen) bool { return x.Src == y.Src && x.Seq == y.Seq })
		if !twice || r.Intn(60) == 0 {
			l = append(l, x)
		}
	}
	return l
}

// 7.1 to 7.4
func TestAgainstPlainVersion(t *testing.T) {
	r := rand.New(rand.NewSource(7))
	var valid, invalid, known, fresh, full int
	for range 8000 {
		start := []int{0, 1000, api.MaxTime - 39}[r.Intn(3)]
		l := randomList(r, start)
		if !plainValid(l) {
			invalid++
			checkInvalid(t, l)
			continue
		}
		valid++
		if !recent.Valid(l) {
			t.Fatalf("%v is not valid", l)
		}
		now := start + r.Intn(40)*r.Intn(2)
		checkPrune(t, l, now, plainPrune(l, now), api.OK)
		for range 20 {
			src, seq := randomFrame(r)
			next, isNew := plainRecord(l, src, seq, now)
			checkRecord(t, l, src, seq, now, next, isNew, api.OK)
			if recent.Known(l, src, seq, now) == isNew {
				t.Errorf("%v %d at %d in %v: known and new, or neither", src, seq, now, l)
			}
			if !isNew {
				known++
			} else if fresh++; len(plainPrune(l, now)) == api.MaxSeen {
				full++
			}
		}
	}
	if valid < 2000 || invalid < 2000 || known < 2000 || fresh < 2000 || full < 2000 {
		t.Errorf("%d valid lists, %d others; %d known frames, %d new ones, %d of them in full lists", valid, invalid, known, fresh, full)
	}
}

// 7.2
func TestPrune(t *testing.T) {
	l := []api.Seen{seen(short(1), 1, 9), seen(short(1), 2, 0), seen(short(2), 1, 10), seen(long(1), 1, 8), seen(short(9), 1, api.MaxTime), seen(short(3), 1, 9), seen(short(4), 1, 10)}
	pick := func(at ...int) []api.Seen {
		var out []api.Seen
		for _, i := range at {
			out = append(out, l[i])
		}
		return out
	}
	for _, c := range []struct {
		now  int
		want []api.Seen
	}{
		{0, pick(0, 2, 3, 4, 5, 6)},
		{1, pick(0, 2, 3, 4, 5, 6)},
		{7, pick(0, 2, 3, 4, 5, 6)},
		{8, pick(0, 2, 4, 5, 6)},
		{9, pick(2, 4, 6)},
		{10, pick(4)},
		{11, pick(4)},
		{api.MaxTime - 1, pick(4)},
		{api.MaxTime, nil},
	} {
		checkPrune(t, l, c.now, c.want, api.OK)
	}
}

// 7.2: an entry that ends at, before or after now
func TestPruneAtEdges(t *testing.T) {
	for _, until := range times() {
		for _, now := range times() {
			for _, l := range [][]api.Seen{{seen(short(1), 2, until)}, list(api.MaxSeen, until)} {
				if now < until {
					checkPrune(t, l, now, l, api.OK)
				} else {
					checkPrune(t, l, now, nil, api.OK)
				}
				if recent.Known(l, l[0].Src, l[0].Seq, now) != (now < until) {
					t.Errorf("%v at %d", l[0], now)
				}
			}
		}
		checkPrune(t, nil, until, nil, api.OK)
	}
}

// 7.2 to 7.4: times that are none
func TestErrRange(t *testing.T) {
	for _, now := range noTimes() {
		for _, l := range [][]api.Seen{nil, {seen(short(1), 2, 9)}, {seen(short(1), 2, 0)}, {seen(short(1), 2, api.MaxTime)}, list(api.MaxSeen, 9)} {
			checkPrune(t, l, now, nil, api.ErrRange)
			for _, src := range senders() {
				checkRecord(t, l, src, 2, now, nil, false, api.ErrRange)
				if recent.Known(l, src, 2, now) {
					t.Errorf("%v is known at %d by %v", src, now, l)
				}
			}
		}
	}
}

// 7.3
func TestKnown(t *testing.T) {
	for i, a := range senders() {
		for at := range 3 {
			for _, seq := range []uint8{0, 1, 7, 127, 128, 254, 255} {
				l := changed([]api.Seen{seen(short(50), seq, 20), seen(short(51), seq, 20), seen(short(52), seq, 20)}, func(l []api.Seen) { l[at] = seen(a, seq, 12) })
				for j, b := range senders() {
					for s := range 256 {
						for _, now := range []int{0, 11, 12, 19} {
							if want := i == j && int(seq) == s && now < 12; recent.Known(l, b, uint8(s), now) != want {
								t.Fatalf("%v %d at %d in %v, want %t", b, s, now, l, want)
							}
						}
					}
				}
			}
		}
	}
	for _, a := range noSenders() {
		for _, l := range [][]api.Seen{nil, {seen(short(1), 2, 9), seen(long(1), 2, 9)}, {seen(a, 2, 9)}} {
			if recent.Known(l, a, 2, 0) {
				t.Errorf("%v is known by %v", a, l)
			}
		}
	}
}

// 7.4: the example of the chapter
func TestRecordExample(t *testing.T) {
	var l []api.Seen
	for _, c := range []struct {
		now   int
		fresh bool
	}{{0, true}, {15, false}, {16, true}} {
		next, fresh, e := recent.Record(l, short(1), 7, c.now)
		if fresh != c.fresh || e != api.OK {
			t.Errorf("at %d: %t %v", c.now, fresh, e)
		}
		l = next
	}
	if want := []api.Seen{seen(short(1), 7, 32)}; !slices.Equal(l, want) {
		t.Errorf("%v", l)
	}
}

// 7.4: the order of the errors
func TestErrorsOfRecord(t *testing.T) {
	lists := map[bool][][]api.Seen{
		true:  {nil, {seen(short(1), 2, 9)}, list(api.MaxSeen, 9), list(api.MaxSeen, 0)},
		false: {{seen(short(1), 2, 9), seen(short(1), 2, 9)}, list(api.MaxSeen+1, 9), list(api.MaxSeen+1, 0), {seen(short(1), 2, -1)}, {seen(api.Addr{}, 2, 9)}},
	}
	for valid, some := range lists {
		for _, l := range some {
			for isSender, addrs := range map[bool][]api.Addr{true: senders(), false: noSenders()} {
				for _, src := range addrs {
					for isTime, nows := range map[bool][]int{true: times(), false: noTimes()} {
						for _, now := range nows {
							next, fresh, e := recent.Record(l, src, 2, now)
							want := api.Errno(api.OK)
							if !valid || !isSender {
								want = api.ErrInvalid
							} else if !isTime {
								want = api.ErrRange
							}
							if e != want || e != api.OK && (fresh || len(next) != 0) {
								t.Errorf("%v at %d in %v: %v %t %v, want %v", src, now, l, next, fresh, e, want)
							}
						}
					}
				}
			}
		}
	}
}

// 7.4: the entry of a new frame, and copies of it
func TestRecordCopies(t *testing.T) {
	for _, src := range senders() {
		for _, seq := range []uint8{0, 1, 128, 255} {
			for _, now := range times() {
				until := min(now+16, api.MaxTime)
				l := []api.Seen{seen(src, seq, until)}
				checkRecord(t, nil, src, seq, now, l, true, api.OK)
				for later := now; later <= min(now+20, api.MaxTime); later++ {
					if later < until {
						checkRecord(t, l, src, seq, later, l, false, api.OK)
						checkRecord(t, l, src, seq+1, later, append(slices.Clone(l), seen(src, seq+1, min(later+16, api.MaxTime))), true, api.OK)
					} else {
						checkRecord(t, l, src, seq, later, []api.Seen{seen(src, seq, min(later+16, api.MaxTime))}, true, api.OK)
					}
				}
			}
		}
	}
	// A copy does not prolong how long a frame is remembered, and only what remains is returned.
	l := []api.Seen{seen(short(1), 1, 9), seen(short(1), 2, 20), seen(short(1), 3, 10), seen(short(1), 4, 16)}
	checkRecord(t, l, short(1), 2, 10, []api.Seen{l[1], l[3]}, false, api.OK)
	checkRecord(t, l, short(1), 3, 10, []api.Seen{l[1], l[3], seen(short(1), 3, 26)}, true, api.OK)
	checkRecord(t, l, short(1), 4, 0, l, false, api.OK)
}

// 7.4: the end of time
func TestRecordAtMaxTime(t *testing.T) {
	for now := api.MaxTime - 20; now <= api.MaxTime; now++ {
		until := api.MaxTime
		if now <= api.MaxTime-api.SeenTime {
			until = now + api.SeenTime
		}
		checkRecord(t, nil, short(1), 1, now, []api.Seen{seen(short(1), 1, until)}, true, api.OK)
	}
	// At MaxTime nothing is remembered, so that each copy is new.
	last := []api.Seen{seen(short(1), 1, api.MaxTime)}
	checkRecord(t, last, short(1), 1, api.MaxTime-1, last, false, api.OK)
	checkRecord(t, last, short(1), 1, api.MaxTime, last, true, api.OK)
	checkRecord(t, list(api.MaxSeen, api.MaxTime), short(1), 1, api.MaxTime, last, true, api.OK)
	checkRecord(t, list(api.MaxSeen, api.MaxTime), short(1), 1, api.MaxTime-1, append(list(api.MaxSeen, api.MaxTime)[1:], last[0]), true, api.OK)
}

// 7.4: which entry gives way in a full list
func TestRecordInFullList(t *testing.T) {
	full := list(api.MaxSeen, 30)
	added := seen(long(5), 5, 16)
	for at := range full {
		for other := range full {
			for _, untils := range [][2]int{{20, 20}, {20, 21}, {21, 20}, {1, 1}, {30, 30}} {
				l := changed(full, func(l []api.Seen) { l[other].Until, l[at].Until = untils[1], untils[0] })
				gone := min(at, other)
				switch {
				case untils[0] == 30:
					gone = 0
				case untils[0] < untils[1] || other == at:
					gone = at
				case untils[0] > untils[1]:
					gone = other
				}
				checkRecord(t, l, added.Src, added.Seq, 0, append(slices.Delete(slices.Clone(l), gone, gone+1), added), true, api.OK)
			}
		}
		// A frame that is remembered makes nothing give way; an entry that has ended does it before any other.
		checkRecord(t, full, full[at].Src, full[at].Seq, 5, full, false, api.OK)
		l := changed(full, func(l []api.Seen) { l[at].Until = 5 })
		rest := slices.Delete(slices.Clone(l), at, at+1)
		checkRecord(t, l, added.Src, added.Seq, 5, append(slices.Clone(rest), seen(added.Src, added.Seq, 21)), true, api.OK)
		checkRecord(t, l, l[at].Src, l[at].Seq, 5, append(slices.Clone(rest), seen(l[at].Src, l[at].Seq, 21)), true, api.OK)
		checkRecord(t, l, l[at].Src, l[at].Seq, 4, l, false, api.OK)
	}
	// With one entry less there is space.
	less := list(api.MaxSeen-1, 30)
	checkRecord(t, less, added.Src, added.Seq, 0, append(slices.Clone(less), added), true, api.OK)
}

// 7.4: time that goes back
func TestTimeGoesBack(t *testing.T) {
	l := []api.Seen{seen(short(1), 1, 116)}
	checkRecord(t, nil, short(1), 1, 100, l, true, api.OK)
	for _, now := range []int{99, 50, 1, 0} {
		checkRecord(t, l, short(1), 1, now, l, false, api.OK)
		checkRecord(t, l, short(2), 1, now, append(slices.Clone(l), seen(short(2), 1, now+16)), true, api.OK)
	}
	// What was pruned stays away.
	l, _ = recent.Prune([]api.Seen{seen(short(1), 1, 9), seen(short(2), 1, 20)}, 10)
	checkRecord(t, l, short(1), 1, 0, []api.Seen{seen(short(2), 1, 20), seen(short(1), 1, 16)}, true, api.OK)
	// The entry that ends first gives way, even if it is the newest one.
	var full []api.Seen
	for i := range api.MaxSeen - 1 {
		full, _, _ = recent.Record(full, short(1), uint8(i), 100)
	}
	full, _, _ = recent.Record(full, short(2), 0, 60)
	checkRecord(t, full, short(2), 1, 60, append(slices.Clone(full[:api.MaxSeen-1]), seen(short(2), 1, 76)), true, api.OK)
	checkRecord(t, full, short(2), 1, 76, append(slices.Clone(full[:api.MaxSeen-1]), seen(short(2), 1, 92)), true, api.OK)
}

// record returns the list after a frame was recorded, and fails if it is not valid or not as new as it should be.
func record(t *testing.T, l []api.Seen, src api.Addr, seq uint8, now int, want bool) []api.Seen {
	t.Helper()
	next, fresh, e := recent.Record(l, src, seq, now)
	if e != api.OK || fresh != want || !recent.Valid(next) {
		t.Fatalf("%v %d at %d in %v: %v %t %v", src, seq, now, l, next, fresh, e)
	}
	if recent.Known(next, src, seq, now) != (now != api.MaxTime) {
		t.Fatalf("%v %d at %d in %v: not known at this time", src, seq, now, l)
	}
	return next
}

// busy returns the list after many frames were recorded up to the time start, the last of them then if it is possible.
func busy(t *testing.T, start, frames int) []api.Seen {
	t.Helper()
	var l []api.Seen
	for i := range frames {
		l = record(t, l, short(api.Short(i%5)), uint8(i), max(0, start-(frames-1-i)/4), true)
	}
	return l
}

// 7.5: copies among as many other frames as there may be, and one more
func TestCopiesAmongOthers(t *testing.T) {
	for _, start := range []int{0, 1, 16, 1000, api.MaxTime - api.SeenTime} {
		for _, before := range []int{0, 1, 30, 31, 32, 33, 50, 64, 100} {
			for others := range api.MaxSeen + 1 {
				l := record(t, busy(t, start, before), long(9), 200, start, true)
				for i := range others {
					now := start + i*api.SeenTime/(api.MaxSeen+1)
					l = record(t, l, long(10), uint8(i), now, true)
					if i+1 < api.MaxSeen {
						l = record(t, l, long(9), 200, now, false)
					}
				}
				isLost := others == api.MaxSeen
				record(t, l, long(9), 200, start+api.SeenTime-1, isLost)
				record(t, l, long(9), 200, start+api.SeenTime, true)
			}
		}
	}
}

// arrival is a frame that was recorded at a time.
type arrival struct {
	frame api.Seen
	at    int
}

// framesSince returns how many different frames of all, which are in the order of their times, were recorded at the time since or later.
func framesSince(all []arrival, since int) int {
	frames := map[api.Seen]bool{}
	for _, a := range slices.Backward(all) {
		if a.at < since {
			break
		}
		frames[a.frame] = true
	}
	return len(frames)
}

// 7.5: histories in which time does not go back
func TestHistories(t *testing.T) {
	r := rand.New(rand.NewSource(75))
	copies, crowded, again := 0, 0, 0
	for range 2000 {
		var l []api.Seen
		var all []arrival
		first := map[api.Seen]int{} // when a frame was new
		now := []int{0, 500, api.MaxTime - api.SeenTime - 1, api.MaxTime - 100}[r.Intn(4)]
		pace := 1 + r.Intn(20)
		for range 150 {
			now = min(now+r.Intn(4*pace)/20, api.MaxTime)
			x := seen(senders()[r.Intn(12)], uint8(r.Intn(4)), 0)
			all = append(all, arrival{x, now})
			since, wasNew := first[x]
			fresh := !recent.Known(l, x.Src, x.Seq, now)
			l = record(t, l, x.Src, x.Seq, now, fresh)
			if wasNew && now < since+api.SeenTime && since <= api.MaxTime-api.SeenTime {
				if framesSince(all, since) > api.MaxSeen {
					crowded++
				} else if copies++; fresh {
					t.Fatalf("%v at %d, recorded since %d, is new", x, now, since)
				}
			}
			if wasNew && fresh {
				again++
			}
			if fresh {
				first[x] = now
			}
		}
	}
	if copies < 10000 || crowded < 10000 || again < 10000 {
		t.Errorf("%d copies, %d among too many frames, %d frames that were new again", copies, crowded, again)
	}
}

// roomy returns l in memory that goes on behind its end.
func roomy(l []api.Seen) []api.Seen {
	return append(slices.Clone(l), list(5, 77)...)[:len(l)]
}

// spoil changes the entries of l, and the memory behind them.
func spoil(l []api.Seen) {
	for i := range l[:cap(l)] {
		l[:cap(l)][i].Until ^= 0xff
	}
}

// R3
func TestMemory(t *testing.T) {
	mixed := changed(list(api.MaxSeen, 30), func(l []api.Seen) { l[0].Until, l[4].Until, l[31].Until = 3, 2, 5 })
	for _, want := range [][]api.Seen{nil, {seen(short(1), 1, 9)}, list(api.MaxSeen-1, 9), list(api.MaxSeen, 9), mixed} {
		for now := range 7 {
			calls := map[string]func(l []api.Seen) []api.Seen{
				"Prune":                 func(l []api.Seen) []api.Seen { out, _ := recent.Prune(l, now); return out },
				"Record of a new frame": func(l []api.Seen) []api.Seen { out, _, _ := recent.Record(l, long(1), 1, now); return out },
				"Record of a copy":      func(l []api.Seen) []api.Seen { out, _, _ := recent.Record(l, short(1), 1, now); return out },
				"Valid and Known": func(l []api.Seen) []api.Seen {
					if !recent.Valid(l) || recent.Known(l, short(99), 1, now) {
						t.Errorf("%v", l)
					}
					return nil
				},
			}
			for name, call := range calls {
				l := roomy(want)
				out := call(l)
				size := len(want) + 5
				if !slices.Equal(l, want) || !slices.Equal(l[:size], roomy(want)[:size]) {
					t.Errorf("%s of %v at %d: the list or the memory behind it was changed", name, want, now)
				}
				keep := slices.Clone(out)
				spoil(l)
				if !slices.Equal(out, keep) {
					t.Errorf("%s of %v at %d: the result shares memory with the list", name, want, now)
				}
				kept := slices.Clone(l[:cap(l)])
				spoil(out)
				if !slices.Equal(l[:cap(l)], kept) {
					t.Errorf("%s of %v at %d: the result shares memory with the list", name, want, now)
				}
			}
		}
	}
}

// R4
func TestEmptyLists(t *testing.T) {
	for _, l := range [][]api.Seen{nil, {}, roomy(nil)} {
		checkValid(t, l)
		checkPrune(t, l, 5, nil, api.OK)
		checkRecord(t, l, short(1), 1, 5, []api.Seen{seen(short(1), 1, 21)}, true, api.OK)
		if recent.Known(l, short(1), 1, 0) || recent.Known(l, api.Addr{}, 0, 0) {
			t.Error("an empty list knows a frame")
		}
	}
}
