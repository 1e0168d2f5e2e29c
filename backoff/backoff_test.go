package backoff_test

import (
	"math"
	"math/rand"
	"testing"

	"multihop/api"
	"multihop/backoff"
)

// exponents are the ones that fit to Busy from 0 to MaxBackoffs + 1.
func exponents() [6]int {
	return [6]int{3, 4, 5, 5, 5, 5}
}

// failed is the only backoff that has failed.
func failed() api.Backoff {
	return api.Backoff{State: api.BackoffFail, Busy: 5, Exponent: 5, Clear: 2}
}

// made returns the backoff with these fields.
func made(state, busy, exponent, clear, wait int) api.Backoff {
	return api.Backoff{State: state, Busy: busy, Exponent: exponent, Clear: clear, Wait: wait}
}

// toGo returns the backoff that has not failed and that would send after so many more slots without a sound.
// That number tells its state: at most the last two slots are spent on listening.
func toGo(busy, slots int) api.Backoff {
	s := api.Backoff{State: api.BackoffWait, Busy: busy, Exponent: exponents()[busy], Clear: 2, Wait: slots - 2}
	switch {
	case slots == 0:
		s.State, s.Clear, s.Wait = api.BackoffSend, 0, 0
	case slots <= 2:
		s.State, s.Clear, s.Wait = api.BackoffSense, slots, 0
	}
	return s
}

// all returns all valid backoffs.
func all() []api.Backoff {
	out := []api.Backoff{failed()}
	for busy, exponent := range exponents() {
		for slots := range 1<<exponent + 2 {
			if busy < 5 {
				out = append(out, toGo(busy, slots))
			}
		}
	}
	return out
}

// set returns all valid backoffs as a set.
func set() map[api.Backoff]bool {
	out := map[api.Backoff]bool{}
	for _, s := range all() {
		out[s] = true
	}
	return out
}

// plainStep follows 8.3 with the slots that a valid backoff has to go.
func plainStep(s api.Backoff, busy bool, draw uint32) api.Backoff {
	slots := s.Wait + s.Clear
	switch {
	case s == failed() || slots == 0:
		return s
	case slots > 2 || !busy:
		return toGo(s.Busy, slots-1)
	case s.Busy == 4:
		return failed()
	}
	sizes := [...]uint32{1: 16, 2: 32, 3: 32, 4: 32}
	return toGo(s.Busy+1, int(draw%sizes[s.Busy+1])+2)
}

// draws are multiples of each power of two that a wait is drawn with, numbers beside them, and the least and the greatest numbers.
func draws() []uint32 {
	out := []uint32{math.MaxUint32, math.MaxInt32, 0xffff, 0xff, 12345, 0xdeadbeef}
	for draw := range uint32(70) {
		out = append(out, draw, 0-draw, 1<<31+draw, 1<<16-draw)
	}
	return out
}

// edges are numbers that a field may have: those about the limits, and the least and the greatest ones, for which a sum or a shift would overflow.
func edges() []int {
	out := []int{math.MinInt, math.MinInt + 1, math.MinInt + 2, math.MinInt + 3, math.MinInt32, -64, math.MaxInt32, 1 << 32, math.MaxInt - 3, math.MaxInt - 2, math.MaxInt - 1, math.MaxInt}
	for x := -4; x <= 9; x++ {
		out = append(out, x)
	}
	for _, x := range []int{16, 32, 64, 128, 256, 1 << 33} {
		out = append(out, x-1, x, x+1)
	}
	return out
}

// check fails if a function takes s for valid and should not, or the other way round.
func check(t *testing.T, s api.Backoff, want bool) {
	t.Helper()
	if backoff.Valid(s) != want {
		t.Errorf("%+v: valid is %t", s, !want)
	}
	if ended := want && (s.State == 3 || s.State == 4); backoff.Ended(s) != ended {
		t.Errorf("%+v: ended is %t", s, !ended)
	}
	for _, busy := range []bool{false, true} {
		for _, draw := range []uint32{0, 1, 5, 16, 31, 32, math.MaxUint32} {
			var next api.Backoff
			if want {
				next = plainStep(s, busy, draw)
			}
			if got := backoff.Step(s, busy, draw); got != next {
				t.Errorf("%+v, busy %t, draw %d: %+v, want %+v", s, busy, draw, got, next)
			}
		}
	}
}

// 8.1: all valid backoffs
func TestValid(t *testing.T) {
	// (7 + 15 + 3 times 31) waiting ones, 5 times 2 listening ones, 5 that send and 1 that has failed
	if n := len(set()); n != 115+10+5+1 || n != len(all()) {
		t.Fatalf("%d backoffs", n)
	}
	for _, s := range all() {
		check(t, s, true)
	}
}

// 8.1: each state at its edges, written out
func TestValidStates(t *testing.T) {
	for _, c := range []struct {
		s    api.Backoff
		want bool
	}{
		{made(1, 0, 3, 2, 1), true},
		{made(1, 0, 3, 2, 7), true},
		{made(1, 0, 3, 2, 8), false},
		{made(1, 0, 3, 2, 0), false},
		{made(1, 0, 3, 2, -1), false},
		{made(1, 0, 3, 1, 1), false},
		{made(1, 0, 3, 0, 1), false},
		{made(1, 0, 3, 3, 1), false},
		{made(1, 1, 4, 2, 15), true},
		{made(1, 1, 4, 2, 16), false},
		{made(1, 1, 3, 2, 1), false},
		{made(1, 2, 5, 2, 31), true},
		{made(1, 2, 5, 2, 32), false},
		{made(1, 3, 5, 2, 31), true},
		{made(1, 3, 6, 2, 1), false},
		{made(1, 4, 5, 2, 31), true},
		{made(1, 4, 7, 2, 31), false},
		{made(1, 5, 5, 2, 1), false},
		{made(1, -1, 2, 2, 1), false},
		{made(2, 0, 3, 1, 0), true},
		{made(2, 0, 3, 2, 0), true},
		{made(2, 0, 3, 0, 0), false},
		{made(2, 0, 3, 3, 0), false},
		{made(2, 0, 3, 2, 1), false},
		{made(2, 0, 3, 2, -1), false},
		{made(2, 4, 5, 1, 0), true},
		{made(2, 5, 5, 1, 0), false},
		{made(2, -1, 2, 1, 0), false},
		{made(3, 0, 3, 0, 0), true},
		{made(3, 4, 5, 0, 0), true},
		{made(3, 5, 5, 0, 0), false},
		{made(3, -1, 2, 0, 0), false},
		{made(3, 0, 3, 1, 0), false},
		{made(3, 0, 3, -1, 0), false},
		{made(3, 0, 3, 0, 1), false},
		{made(3, 0, 3, 0, -1), false},
		{made(4, 5, 5, 2, 0), true},
		{made(4, 4, 5, 2, 0), false},
		{made(4, 6, 5, 2, 0), false},
		{made(4, 0, 3, 2, 0), false},
		{made(4, 5, 8, 2, 0), false},
		{made(4, 5, 5, 1, 0), false},
		{made(4, 5, 5, 3, 0), false},
		{made(4, 5, 5, 0, 0), false},
		{made(4, 5, 5, 2, 1), false},
		{made(4, 5, 5, 2, -1), false},
		{api.Backoff{}, false},
		{api.Backoff{State: 0, Exponent: 3, Clear: 2}, false},
		{api.Backoff{State: 5, Busy: 5, Exponent: 5, Clear: 2}, false},
	} {
		check(t, c.s, c.want)
	}
}

// fields returns the fields of s.
func fields(s *api.Backoff) [5]*int {
	return [5]*int{&s.State, &s.Busy, &s.Exponent, &s.Clear, &s.Wait}
}

// 8.1: valid backoffs with one field changed, and with two
func TestValidFields(t *testing.T) {
	valid := set()
	for _, s := range all() {
		for i := range 5 {
			for _, x := range append(edges(), *fields(&s)[i]-1, *fields(&s)[i]+1) {
				changed := s
				*fields(&changed)[i] = x
				check(t, changed, valid[changed])
			}
		}
	}
	for _, s := range []api.Backoff{failed(), toGo(0, 0), toGo(0, 1), toGo(0, 2), toGo(0, 3), toGo(1, 17), toGo(2, 33), toGo(3, 1), toGo(4, 0), toGo(4, 5)} {
		for i := range 5 {
			for j := range i {
				for _, x := range edges() {
					for _, y := range edges() {
						changed := s
						*fields(&changed)[i], *fields(&changed)[j] = x, y
						check(t, changed, valid[changed])
					}
				}
			}
		}
	}
}

// 8.1: numbers about the limits in all fields, and an Exponent that follows a Busy that no backoff has
func TestValidNumbers(t *testing.T) {
	valid := set()
	for state := -1; state <= 6; state++ {
		for busy := -2; busy <= 7; busy++ {
			for exponent := -1; exponent <= 8; exponent++ {
				for clear := -1; clear <= 4; clear++ {
					for _, wait := range []int{-1, 0, 1, 2, 6, 7, 8, 9, 14, 15, 16, 17, 30, 31, 32, 33, 63, 64, 127, 128} {
						s := made(state, busy, exponent, clear, wait)
						check(t, s, valid[s])
					}
				}
			}
		}
	}
	for _, busy := range edges() {
		for state := range 6 {
			for _, exponent := range []int{busy + 3, min(busy+3, 5), 5} {
				for _, wait := range []int{0, 1} {
					for clear := range 3 {
						s := made(state, busy, exponent, clear, wait)
						check(t, s, valid[s])
					}
				}
			}
		}
	}
}

// 8.2
func TestBegin(t *testing.T) {
	for _, c := range []struct {
		draw uint32
		want api.Backoff
	}{
		{9, api.Backoff{State: api.BackoffWait, Exponent: 3, Clear: 2, Wait: 1}},
		{0, api.Backoff{State: api.BackoffSense, Exponent: 3, Clear: 2}},
		{1, api.Backoff{State: api.BackoffWait, Exponent: 3, Clear: 2, Wait: 1}},
		{7, api.Backoff{State: api.BackoffWait, Exponent: 3, Clear: 2, Wait: 7}},
		{8, api.Backoff{State: api.BackoffSense, Exponent: 3, Clear: 2}},
		{16, api.Backoff{State: api.BackoffSense, Exponent: 3, Clear: 2}},
		{31, api.Backoff{State: api.BackoffWait, Exponent: 3, Clear: 2, Wait: 7}},
		{1 << 31, api.Backoff{State: api.BackoffSense, Exponent: 3, Clear: 2}},
		{math.MaxUint32 - 7, api.Backoff{State: api.BackoffSense, Exponent: 3, Clear: 2}},
		{math.MaxUint32, api.Backoff{State: api.BackoffWait, Exponent: 3, Clear: 2, Wait: 7}},
	} {
		if got := backoff.Begin(c.draw); got != c.want {
			t.Errorf("%d: %+v, want %+v", c.draw, got, c.want)
		}
	}
	r := rand.New(rand.NewSource(82))
	some := draws()
	for range 10000 {
		some = append(some, r.Uint32())
	}
	for _, draw := range some {
		if got, want := backoff.Begin(draw), toGo(0, int(draw&7)+2); got != want {
			t.Errorf("%d: %+v, want %+v", draw, got, want)
		}
	}
}

// 8.3: steps that are written out, the examples of the chapter among them
func TestStep(t *testing.T) {
	const wait, sense, send, fail = api.BackoffWait, api.BackoffSense, api.BackoffSend, api.BackoffFail
	for _, c := range []struct {
		s    api.Backoff
		busy bool
		draw uint32
		want api.Backoff
	}{
		{made(wait, 0, 3, 2, 7), false, 5, made(wait, 0, 3, 2, 6)},
		{made(wait, 0, 3, 2, 7), true, 5, made(wait, 0, 3, 2, 6)},
		{made(wait, 0, 3, 2, 2), true, 0, made(wait, 0, 3, 2, 1)},
		{made(wait, 0, 3, 2, 1), false, 5, made(sense, 0, 3, 2, 0)},
		{made(wait, 0, 3, 2, 1), true, 5, made(sense, 0, 3, 2, 0)},
		{made(wait, 4, 5, 2, 31), true, 9, made(wait, 4, 5, 2, 30)},
		{made(wait, 4, 5, 2, 1), true, 9, made(sense, 4, 5, 2, 0)},
		{made(sense, 0, 3, 2, 0), false, 5, made(sense, 0, 3, 1, 0)},
		{made(sense, 0, 3, 1, 0), false, 5, made(send, 0, 3, 0, 0)},
		{made(sense, 4, 5, 1, 0), false, 5, made(send, 4, 5, 0, 0)},
		{made(sense, 0, 3, 2, 0), true, 17, made(wait, 1, 4, 2, 1)},
		{made(sense, 0, 3, 1, 0), true, 17, made(wait, 1, 4, 2, 1)},
		{made(sense, 0, 3, 1, 0), true, 16, made(sense, 1, 4, 2, 0)},
		{made(sense, 0, 3, 2, 0), true, 8, made(wait, 1, 4, 2, 8)},
		{made(sense, 1, 4, 2, 0), true, 16, made(wait, 2, 5, 2, 16)},
		{made(sense, 1, 4, 1, 0), true, 32, made(sense, 2, 5, 2, 0)},
		{made(sense, 2, 5, 2, 0), true, 63, made(wait, 3, 5, 2, 31)},
		{made(sense, 2, 5, 2, 0), true, 32, made(sense, 3, 5, 2, 0)},
		{made(sense, 3, 5, 1, 0), true, math.MaxUint32, made(wait, 4, 5, 2, 31)},
		{made(sense, 3, 5, 1, 0), true, 64, made(sense, 4, 5, 2, 0)},
		{made(sense, 4, 5, 2, 0), true, 9, made(fail, 5, 5, 2, 0)},
		{made(sense, 4, 5, 1, 0), true, 0, made(fail, 5, 5, 2, 0)},
		{made(send, 0, 3, 0, 0), true, 9, made(send, 0, 3, 0, 0)},
		{made(send, 4, 5, 0, 0), false, 9, made(send, 4, 5, 0, 0)},
		{made(fail, 5, 5, 2, 0), false, 9, made(fail, 5, 5, 2, 0)},
		{made(fail, 5, 5, 2, 0), true, 9, made(fail, 5, 5, 2, 0)},
		{api.Backoff{}, true, 9, api.Backoff{}},
		{made(wait, 0, 3, 2, 8), false, 9, api.Backoff{}},
		{made(sense, 0, 4, 2, 0), true, 9, api.Backoff{}},
		{made(send, 0, 3, 1, 0), false, 9, api.Backoff{}},
		{made(fail, 4, 5, 2, 0), false, 9, api.Backoff{}},
	} {
		if got := backoff.Step(c.s, c.busy, c.draw); got != c.want {
			t.Errorf("%+v, busy %t, draw %d: %+v, want %+v", c.s, c.busy, c.draw, got, c.want)
		}
	}
	s := backoff.Step(backoff.Begin(9), true, 3)
	if s = backoff.Step(backoff.Step(s, false, 3), false, 3); s.State != send {
		t.Errorf("%+v", s)
	}
}

// 8.3: all steps of valid backoffs, with many draws
func TestAllSteps(t *testing.T) {
	r := rand.New(rand.NewSource(83))
	some := draws()
	for range 300 {
		some = append(some, r.Uint32())
	}
	for _, s := range all() {
		for _, busy := range []bool{false, true} {
			for _, draw := range some {
				got, want := backoff.Step(s, busy, draw), plainStep(s, busy, draw)
				if got != want || !backoff.Valid(got) {
					t.Fatalf("%+v, busy %t, draw %d: %+v, want %+v", s, busy, draw, got, want)
				}
			}
		}
	}
}

// past is a backoff with what has happened before: the last slots in which the channel was not busy, up to ClearSlots, and all in which it listened and the channel was busy.
type past struct {
	s           api.Backoff
	quiet, busy int
}

// after returns p after one more slot.
func (p past) after(busy bool, draw uint32) past {
	next := past{s: backoff.Step(p.s, busy, draw), quiet: min(p.quiet+1, 2), busy: p.busy}
	if busy {
		next.quiet = 0
	}
	if busy && p.s.State == api.BackoffSense {
		next.busy++
	}
	return next
}

// all returns what can have become of p after one more slot.
func (p past) all() []past {
	var out []past
	for draw := range uint32(32) {
		out = append(out, p.after(false, draw), p.after(true, draw))
	}
	return out
}

// begun returns what can be begun with.
func begun() []past {
	var out []past
	for draw := range uint32(8) {
		out = append(out, past{s: backoff.Begin(draw)})
	}
	return out
}

// 8.4: everything that can happen, slot by slot
func TestAllWays(t *testing.T) {
	reached := begun()
	shortest := map[int]int{}
	longest := map[int]int{}
	for step := 0; len(reached) > 0; step++ {
		if step > 125 {
			t.Fatalf("%d backoffs have not ended after 125 steps, %+v among them", len(reached), reached[0])
		}
		next := map[past]bool{}
		for _, p := range reached {
			if !backoff.Valid(p.s) {
				t.Fatalf("%+v is not valid", p.s)
			}
			if !backoff.Ended(p.s) {
				for _, q := range p.all() {
					next[q] = true
				}
				continue
			}
			checkEnd(t, p)
			if _, known := shortest[p.s.State]; !known {
				shortest[p.s.State] = step
			}
			longest[p.s.State] = step
		}
		reached = nil
		for p := range next {
			reached = append(reached, p)
		}
	}
	for state, want := range map[int][2]int{api.BackoffSend: {2, 125}, api.BackoffFail: {5, 125}} {
		if got := [2]int{shortest[state], longest[state]}; got != want {
			t.Errorf("state %d is reached after %v steps, want %v", state, got, want)
		}
	}
}

// checkEnd fails if a backoff has ended as it should not, or goes on.
func checkEnd(t *testing.T, p past) {
	t.Helper()
	if p.s.State == api.BackoffSend && p.quiet != 2 || p.s.State == api.BackoffFail && p.busy != 5 {
		t.Errorf("%+v has ended", p)
	}
	for _, q := range p.all() {
		if q.s != p.s {
			t.Errorf("%+v has ended and goes on to %+v", p.s, q.s)
		}
	}
}

// follow steps from s, in a channel that is busy as heard tells, until it has ended, and returns the end and the number of steps.
func follow(t *testing.T, s api.Backoff, draw uint32, heard func(s api.Backoff) bool) (api.Backoff, int) {
	t.Helper()
	for steps := range 126 {
		if backoff.Ended(s) {
			return s, steps
		}
		s = backoff.Step(s, heard(s), draw)
	}
	t.Fatalf("%+v has not ended", s)
	return s, 0
}

// 8.4: a channel that is never busy
func TestQuietChannel(t *testing.T) {
	never := func(s api.Backoff) bool { return false }
	for _, draw := range draws() {
		s, steps := follow(t, backoff.Begin(draw), 5, never)
		if want := int(draw%8) + 2; s != toGo(0, 0) || steps != want {
			t.Errorf("%d: %+v after %d steps, want %d", draw, s, steps, want)
		}
	}
	// from each wait that can be drawn on the way
	for _, s := range all() {
		if end, steps := follow(t, s, 5, never); s != failed() && (end != toGo(s.Busy, 0) || steps != s.Wait+s.Clear) {
			t.Errorf("%+v: %+v after %d steps", s, end, steps)
		}
	}
}

// 8.4: channels that are always busy, or busy when it is heard
func TestBusyChannel(t *testing.T) {
	always := func(s api.Backoff) bool { return true }
	latest := func(s api.Backoff) bool { return s.State == api.BackoffSense && s.Clear == 1 }
	often := func(s api.Backoff) bool { return latest(s) && s.Busy < api.MaxBackoffs }
	waiting := func(s api.Backoff) bool { return s.State == api.BackoffWait }
	for _, c := range []struct {
		draw  uint32
		heard func(s api.Backoff) bool
		end   api.Backoff
		steps int
	}{
		{0, always, failed(), 5},
		{math.MaxUint32, always, failed(), 7 + 15 + 3*31 + 5},
		{0, latest, failed(), 10},
		{math.MaxUint32, latest, failed(), 125},
		{math.MaxUint32, often, toGo(4, 0), 125},
		{0, often, toGo(4, 0), 10},
		{math.MaxUint32, waiting, toGo(0, 0), 9},
		{0, waiting, toGo(0, 0), 2},
	} {
		if s, steps := follow(t, backoff.Begin(c.draw), c.draw, c.heard); s != c.end || steps != c.steps {
			t.Errorf("draw %d: %+v after %d steps, want %+v after %d", c.draw, s, steps, c.end, c.steps)
		}
	}
}

// 8.3 and 8.4: random channels, step by step beside the plain version
func TestRandomChannels(t *testing.T) {
	r := rand.New(rand.NewSource(84))
	ends := map[api.Backoff]int{}
	for range 20000 {
		loud := r.Float64()
		draw := r.Uint32()
		s := backoff.Begin(draw)
		want := toGo(0, int(draw%8)+2)
		for range 125 {
			busy, draw := r.Float64() < loud, r.Uint32()
			s, want = backoff.Step(s, busy, draw), plainStep(want, busy, draw)
			if s != want {
				t.Fatalf("%+v, want %+v", s, want)
			}
		}
		ends[s]++
	}
	for _, s := range []api.Backoff{failed(), toGo(0, 0), toGo(1, 0), toGo(2, 0), toGo(3, 0), toGo(4, 0)} {
		if ends[s] < 500 {
			t.Errorf("%+v was the end %d times", s, ends[s])
		}
		delete(ends, s)
	}
	if len(ends) > 0 {
		t.Errorf("other ends: %v", ends)
	}
}
