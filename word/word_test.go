package word_test

import (
	"math"
	"testing"

	"knell/api"
	"knell/word"
)

// samples are words with bits at both ends, with none and with all of them, and
// with patterns that tell each bit from its neighbours.
func samples() []uint64 {
	l := []uint64{0, 1, 1 << 63, 1<<63 | 1, math.MaxUint64, 0xaaaaaaaaaaaaaaaa, 0x5555555555555555, 0x0123456789abcdef, 0xfedcba9876543210}
	for x, n := uint64(88172645463325252), 0; n < 200; n++ {
		x ^= x << 13
		x ^= x >> 7
		x ^= x << 17
		l = append(l, x)
	}
	for bit := range 64 {
		l = append(l, 1<<bit, ^uint64(1<<bit))
	}
	return l
}

// noParts are shifts and widths of which there is no part; sums of some wrap
// round.
func noParts() [][2]int {
	return [][2]int{
		{0, 0}, {5, 0}, {63, 0}, {64, 0}, {0, -1}, {10, -5}, {70, -10},
		{-1, 1}, {-1, 2}, {-1, 64}, {-1, 65}, {-64, 128},
		{0, 65}, {1, 64}, {60, 5}, {63, 2}, {64, 1}, {65, 1}, {32, 33}, {0, 128},
		{math.MaxInt, 1}, {1, math.MaxInt}, {math.MaxInt, math.MaxInt}, {math.MinInt, 1}, {1, math.MinInt},
		{math.MinInt, math.MinInt}, {math.MinInt, math.MaxInt}, {math.MaxInt, math.MinInt}, {0, math.MaxInt}, {0, math.MinInt}, {math.MaxInt, 64}, {math.MinInt, 64},
	}
}

// eachPart calls do with every part that there is.
func eachPart(do func(shift, width int)) {
	for shift := range 64 {
		for width := 1; width <= 64-shift; width++ {
			do(shift, width)
		}
	}
}

// partOf reads a part bit by bit.
func partOf(w uint64, shift, width int) uint64 {
	v := uint64(0)
	for bit := range width {
		v |= w >> (shift + bit) & 1 << bit
	}
	return v
}

// withPart writes a part bit by bit.
func withPart(w uint64, shift, width int, v uint64) uint64 {
	for bit := range width {
		w &^= 1 << (shift + bit)
		w |= v >> bit & 1 << (shift + bit)
	}
	return w
}

// P1.1: that part of w.
func TestGetGivesAPart(t *testing.T) {
	for _, x := range []struct {
		w            uint64
		shift, width int
		want         uint64
	}{
		{0xabc, 4, 4, 0xb},
		{0xabc, 0, 4, 0xc},
		{6, 0, 1, 0},
		{7, 0, 1, 1},
		{1 << 63, 63, 1, 1},
		{1<<63 - 1, 63, 1, 0},
		{1 << 63, 0, 64, 1 << 63},
		{math.MaxUint64, 0, 64, math.MaxUint64},
		{math.MaxUint64, 1, 63, 1<<63 - 1},
		{math.MaxUint64, 0, 63, 1<<63 - 1},
		{0x0123456789abcdef, 32, 32, 0x01234567},
	} {
		if got := word.Get(x.w, x.shift, x.width); got != x.want {
			t.Errorf("Get(%#x, %d, %d) = %#x, want %#x", x.w, x.shift, x.width, got, x.want)
		}
	}
	eachPart(func(shift, width int) {
		for _, w := range samples() {
			if got, want := word.Get(w, shift, width), partOf(w, shift, width); got != want {
				t.Fatalf("Get(%#x, %d, %d) = %#x, want %#x", w, shift, width, got, want)
			}
		}
	})
}

// P1.1: 0, if there is no such part.
func TestGetOfNoPart(t *testing.T) {
	for _, p := range noParts() {
		for _, w := range []uint64{7, math.MaxUint64, 1 << 63} {
			if got := word.Get(w, p[0], p[1]); got != 0 {
				t.Errorf("Get(%#x, %d, %d) = %#x, want 0", w, p[0], p[1], got)
			}
		}
	}
}

// P1.1: w with v as that part, and all other bits as they were.
func TestPutLaysAPart(t *testing.T) {
	for _, x := range []struct {
		w            uint64
		shift, width int
		v, want      uint64
	}{
		{0xff, 4, 8, 0, 0xf},
		{0, 4, 8, 255, 0xff0},
		{0xabc, 4, 4, 0x5, 0xa5c},
		{0, 63, 1, 1, 1 << 63},
		{math.MaxUint64, 63, 1, 0, 1<<63 - 1},
		{math.MaxUint64, 0, 1, 0, math.MaxUint64 - 1},
		{0, 0, 64, math.MaxUint64, math.MaxUint64},
		{math.MaxUint64, 0, 64, 0, 0},
		{math.MaxUint64, 0, 64, 1 << 63, 1 << 63},
		{0, 1, 63, 1<<63 - 1, math.MaxUint64 - 1},
	} {
		if got, e := word.Put(x.w, x.shift, x.width, x.v); got != x.want || e != api.OK {
			t.Errorf("Put(%#x, %d, %d, %#x) = %#x, %d, want %#x, OK", x.w, x.shift, x.width, x.v, got, e, x.want)
		}
	}
	eachPart(func(shift, width int) {
		most := uint64(math.MaxUint64) >> (64 - width)
		for _, w := range samples()[:40] {
			for _, v := range []uint64{0, 1, most, most >> 1, most - most>>1, w & most, 0xaaaaaaaaaaaaaaaa & most} {
				got, e := word.Put(w, shift, width, v)
				if want := withPart(w, shift, width, v); got != want || e != api.OK {
					t.Fatalf("Put(%#x, %d, %d, %#x) = %#x, %d, want %#x, OK", w, shift, width, v, got, e, want)
				}
			}
		}
	})
}

// P1.1: ErrRange, if v doesn't go into the part; only one of 64 bits takes all.
func TestPutOfTooMuch(t *testing.T) {
	eachPart(func(shift, width int) {
		if width == 64 {
			return
		}
		over := uint64(1) << width
		for _, v := range []uint64{over, over + 1, over << 1, over | 1<<63, 1 << 63, math.MaxUint64} {
			if v < over { // a bit that was shifted out
				continue
			}
			for _, w := range []uint64{0, 7, math.MaxUint64} {
				if got, e := word.Put(w, shift, width, v); got != 0 || e != api.ErrRange {
					t.Fatalf("Put(%#x, %d, %d, %#x) = %#x, %d, want 0, ErrRange", w, shift, width, v, got, e)
				}
			}
		}
	})
}

// P1.1: ErrArg, if there is no such part, and that also where v is too great (K2).
func TestPutOfNoPart(t *testing.T) {
	for _, p := range noParts() {
		for _, v := range []uint64{0, 1, 256, math.MaxUint64} {
			for _, w := range []uint64{0, 7, math.MaxUint64} {
				if got, e := word.Put(w, p[0], p[1], v); got != 0 || e != api.ErrArg {
					t.Errorf("Put(%#x, %d, %d, %#x) = %#x, %d, want 0, ErrArg", w, p[0], p[1], v, got, e)
				}
			}
		}
	}
}

// P1.3, of a single part: what was put into a word stands in it.
func TestPutAndGet(t *testing.T) {
	eachPart(func(shift, width int) {
		for _, w := range samples()[:60] {
			v := word.Get(^w, shift, width)
			x, e := word.Put(w, shift, width, v)
			if e != api.OK || word.Get(x, shift, width) != v {
				t.Fatalf("Put(%#x, %d, %d, %#x) = %#x, %d: %#x stands there", w, shift, width, v, x, e, word.Get(x, shift, width))
			}
		}
	})
}

// part is where a number of a word stands, and what is added to it there.
type part struct {
	name         string
	shift, width int
	more         int
}

// kind is one of the five words, its numbers as a list.
type kind struct {
	name  string
	parts []part
	word  func(l []int) (uint64, api.Errno)
	of    func(w uint64) []int
}

func kinds() []kind {
	return []kind{
		{
			"State", []part{{"Gen", 32, 32, 0}, {"Time", 2, 30, 0}, {"Status", 0, 2, 0}},
			func(l []int) (uint64, api.Errno) { return word.State{Gen: l[0], Time: l[1], Status: l[2]}.Word() },
			func(w uint64) []int { s := word.StateOf(w); return []int{s.Gen, s.Time, s.Status} },
		},
		{
			"Home", []part{{"Gen", 32, 32, 0}, {"Version", 16, 16, 0}, {"Shard", 0, 16, 0}},
			func(l []int) (uint64, api.Errno) { return word.Home{Gen: l[0], Version: l[1], Shard: l[2]}.Word() },
			func(w uint64) []int { h := word.HomeOf(w); return []int{h.Gen, h.Version, h.Shard} },
		},
		{
			"Key", []part{{"Gen", 32, 32, 0}, {"Version", 16, 16, 0}, {"Node", 0, 16, 0}},
			func(l []int) (uint64, api.Errno) { return word.Key{Gen: l[0], Version: l[1], Node: l[2]}.Word() },
			func(w uint64) []int { k := word.KeyOf(w); return []int{k.Gen, k.Version, k.Node} },
		},
		{
			"Head", []part{{"Count", 32, 32, 0}, {"Index", 0, 32, 1}},
			func(l []int) (uint64, api.Errno) { return word.Head{Count: l[0], Index: l[1]}.Word() },
			func(w uint64) []int { h := word.HeadOf(w); return []int{h.Count, h.Index} },
		},
		{
			"Conn", []part{{"Version", 38, 26, 0}, {"Attempt", 33, 5, 0}, {"Status", 30, 3, 0}, {"Time", 0, 30, 0}},
			func(l []int) (uint64, api.Errno) {
				return word.Conn{Version: l[0], Attempt: l[1], Status: l[2], Time: l[3]}.Word()
			},
			func(w uint64) []int { c := word.ConnOf(w); return []int{c.Version, c.Attempt, c.Status, c.Time} },
		},
	}
}

// least and most are the numbers that just go into a part.
func (p part) least() int { return -p.more }
func (p part) most() int  { return 1<<p.width - 1 - p.more }

// choices are all lists that take each part's number from what of gives for it.
func choices(parts []part, of func(p part) []int) [][]int {
	all := [][]int{nil}
	for _, p := range parts {
		var longer [][]int
		for _, l := range all {
			for _, n := range of(p) {
				longer = append(longer, append(append([]int(nil), l...), n))
			}
		}
		all = longer
	}
	return all
}

func goesIn(p part) []int {
	return []int{p.least(), p.least() + 1, p.least() + (p.most()-p.least())/3, p.most() - 1, p.most()}
}

func same(a, b []int) bool {
	for i := range a {
		if a[i] != b[i] {
			return false
		}
	}
	return len(a) == len(b)
}

// P1.2: each number stands in its part, up to the least and the greatest that go
// in; P1.3: what was put into a word stands in it.
func TestWordOfNumbersThatGoIn(t *testing.T) {
	for _, k := range kinds() {
		for _, l := range choices(k.parts, goesIn) {
			want := uint64(0)
			for i, p := range k.parts {
				want += uint64(l[i]+p.more) << p.shift
			}
			w, e := k.word(l)
			if w != want || e != api.OK {
				t.Errorf("%s%v: %#x, %d, want %#x, OK", k.name, l, w, e, want)
			}
			if got := k.of(w); !same(got, l) {
				t.Errorf("%s%v: in %#x stands %v", k.name, l, w, got)
			}
		}
	}
}

// P1.2: ErrRange, and no word, if one of the numbers doesn't go into its part,
// whichever it is, and whatever the others are.
func TestWordOfNumbersThatDont(t *testing.T) {
	for _, k := range kinds() {
		for i, p := range k.parts {
			for _, bad := range []int{p.least() - 1, p.least() - 2, p.most() + 1, p.most() + 2, 2 * (p.most() + 1), math.MinInt, math.MinInt + 1, math.MaxInt, math.MaxInt - 1, -1 << 32, 1 << 40} {
				for _, l := range choices(k.parts, func(p part) []int { return []int{p.least(), p.most()} }) {
					l[i] = bad
					if w, e := k.word(l); w != 0 || e != api.ErrRange {
						t.Errorf("%s%v, wrong at %s: %#x, %d, want 0, ErrRange", k.name, l, p.name, w, e)
					}
				}
			}
		}
		for _, l := range choices(k.parts, func(p part) []int { return []int{p.least() - 1, p.most() + 1} }) {
			if w, e := k.word(l); w != 0 || e != api.ErrRange {
				t.Errorf("%s%v, wrong all: %#x, %d, want 0, ErrRange", k.name, l, w, e)
			}
		}
	}
}

// P1.2: StateOf and its fellows tell what stands in any word; P1.3: every word
// is that of what stands in it.
func TestEveryWordIsThatOfItsNumbers(t *testing.T) {
	for _, k := range kinds() {
		for _, w := range samples() {
			l := k.of(w)
			for i, p := range k.parts {
				if want := int(partOf(w, p.shift, p.width)) - p.more; l[i] != want {
					t.Errorf("%sOf(%#x): %s %d, want %d", k.name, w, p.name, l[i], want)
				}
			}
			if got, e := k.word(l); got != w || e != api.OK {
				t.Errorf("%sOf(%#x): %v, whose word is %#x, %d", k.name, w, l, got, e)
			}
		}
	}
}

// The chapter's example, and the index -1 of a head: a cell that is 0 has none.
func TestExamples(t *testing.T) {
	if w, e := (word.State{Gen: 1, Time: 2, Status: word.Armed}).Word(); w != 4294967305 || e != api.OK {
		t.Error(w, e)
	}
	if h := word.HeadOf(0); h != (word.Head{Count: 0, Index: -1}) {
		t.Error(h)
	}
	if w, e := (word.Head{Count: 0, Index: -1}).Word(); w != 0 || e != api.OK {
		t.Error(w, e)
	}
	if w, e := (word.Head{Count: 0, Index: 0}).Word(); w != 1 || e != api.OK {
		t.Error(w, e)
	}
	if h := word.HeadOf(math.MaxUint64); h != (word.Head{Count: 1<<32 - 1, Index: 1<<32 - 2}) {
		t.Error(h)
	}
	if s := word.StateOf(0); s != (word.State{Gen: 0, Time: 0, Status: word.Idle}) {
		t.Error(s)
	}
}

// The numbers of what a timer's state tells, and the limits that must go in.
func TestStatusesAndLimits(t *testing.T) {
	if l := [4]int{word.Idle, word.Armed, word.Fired, word.Cancelled}; l != [4]int{0, 1, 2, 3} {
		t.Error(l)
	}
	s := word.State{Gen: api.MaxGen, Time: api.MaxTime, Status: word.Cancelled}
	if w, e := s.Word(); w != math.MaxUint64 || e != api.OK || word.StateOf(w) != s {
		t.Error(w, e, word.StateOf(w))
	}
	for _, s := range []word.State{{Gen: api.MaxGen + 1}, {Time: api.MaxTime + 1}, {Time: api.None}, {Status: word.Cancelled + 1}} {
		if w, e := s.Word(); w != 0 || e != api.ErrRange {
			t.Error(s, w, e)
		}
	}
}
