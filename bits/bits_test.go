package bits_test

import (
	"math"
	"slices"
	"testing"

	"knell/bits"
)

// numbers are all slots, what is close to them, and what is far off. Those that
// are 64 or 2^32 away from a slot would be one, if they were cut to their low bits.
func numbers() []int {
	l := []int{
		math.MinInt, math.MinInt + 1, math.MinInt + 63, math.MinInt + 64, -1 << 40, -1<<32 + 5, -1 << 32, -256, -129, -128, -127, -65, -64, -63,
		127, 128, 129, 255, 256, 261, 1<<31 - 1, 1 << 31, 1 << 32, 1<<32 + 5, 1<<32 + 63, 1 << 40, 1 << 62,
		math.MaxInt - 64, math.MaxInt - 63, math.MaxInt - 1, math.MaxInt,
	}
	for i := -9; i < 73; i++ {
		l = append(l, i)
	}
	return l
}

// sets are the empty set, the full one, halves, each with one slot, or without
// it, and some with no pattern, sparse and dense.
func sets() []bits.Set {
	l := []bits.Set{0, math.MaxUint64, 0x5555555555555555, 0xaaaaaaaaaaaaaaaa, 0xffffffff, 0xffffffff00000000, 0x8000000000000001, 40}
	for i := range 64 {
		l = append(l, power(i), math.MaxUint64-power(i))
	}
	for x := uint64(88172645463325252); len(l) < 240; {
		x ^= x << 13
		x ^= x >> 7
		x ^= x << 17
		l = append(l, bits.Set(x), bits.Set(x&(x<<21)&(x>>19)), bits.Set(x|x<<21|x>>19))
	}
	return l
}

// power gives the set whose only slot is i, by doubling.
func power(i int) bits.Set {
	s := bits.Set(1)
	for range i {
		s += s
	}
	return s
}

// slots reads a set by halving: which of the 64 slots are in it.
func slots(s bits.Set) [64]bool {
	var in [64]bool
	for i := range in {
		in[i] = s%2 == 1
		s /= 2
	}
	return in
}

// setOf sums a set up from its slots.
func setOf(in [64]bool) bits.Set {
	var s bits.Set
	for i := range in {
		if in[i] {
			s += power(i)
		}
	}
	return s
}

// isSlot tells whether a number is one of the 64.
func isSlot(i int) bool { return 0 <= i && i <= 63 }

// changed gives a set in which one slot is, or isn't.
func changed(s bits.Set, i int, is bool) bits.Set {
	in := slots(s)
	if isSlot(i) {
		in[i] = is
	}
	return setOf(in)
}

// listOf gives a set's slots, rising.
func listOf(s bits.Set) []int {
	var l []int
	for i, is := range slots(s) {
		if is {
			l = append(l, i)
		}
	}
	return l
}

// betweenOf drops what is outside, slot by slot.
func betweenOf(s bits.Set, from, to int) bits.Set {
	in := slots(s)
	for i := range in {
		in[i] = in[i] && from <= i && i <= to
	}
	return setOf(in)
}

// nextOf looks at slot after slot.
func nextOf(s bits.Set, from int) int {
	for _, i := range listOf(s) {
		if i >= from {
			return i
		}
	}
	return -1
}

func wantSet(t *testing.T, call string, got, want bits.Set) {
	t.Helper()
	if got != want {
		t.Errorf("%s = %v (%d), want %v (%d)", call, listOf(got), uint64(got), listOf(want), uint64(want))
	}
}

func wantNext(t *testing.T, s bits.Set, from, want int) {
	t.Helper()
	if got := s.Next(from); got != want {
		t.Errorf("Next(%d) of %v = %d, want %d", from, listOf(s), got, want)
	}
}

// The chapter's example.
func TestExample(t *testing.T) {
	s := bits.Of(3, 5, 70)
	wantSet(t, "Of(3, 5, 70)", s, 40)
	wantNext(t, s, 4, 5)
}

// P6.1: Of nothing, of one number each, of all of them, in any order, and twice.
func TestOf(t *testing.T) {
	wantSet(t, "Of()", bits.Of(), 0)
	wantSet(t, "Of of nil", bits.Of([]int(nil)...), 0)
	wantSet(t, "Of of an empty list", bits.Of([]int{}...), 0)
	wantSet(t, "Of(0)", bits.Of(0), 1)
	wantSet(t, "Of(63)", bits.Of(63), 1<<63)
	wantSet(t, "Of(63, 0)", bits.Of(63, 0), 1<<63+1)
	wantSet(t, "Of(5, 3, 5, 5)", bits.Of(5, 3, 5, 5), 40)
	wantSet(t, "Of(-1, 64)", bits.Of(-1, 64), 0)
	wantSet(t, "Of(-1, 5, 64, 3)", bits.Of(-1, 5, 64, 3), 40)
	wantSet(t, "Of all numbers", bits.Of(numbers()...), math.MaxUint64)
	for _, i := range numbers() {
		wantSet(t, "Of of one number", bits.Of(i), changed(0, i, true))
		wantSet(t, "Of of one among others", bits.Of(9, i, 60), changed(1<<9+1<<60, i, true))
	}
	for _, s := range sets() {
		l := listOf(s)
		wantSet(t, "Of of its list", bits.Of(l...), s)
		slices.Reverse(l)
		wantSet(t, "Of of its list, falling", bits.Of(append(l, l...)...), s)
	}
}

// P6.1: is i in it?
func TestHas(t *testing.T) {
	for _, s := range sets() {
		in := slots(s)
		for _, i := range numbers() {
			if got, want := s.Has(i), isSlot(i) && in[i&63]; got != want {
				t.Errorf("Has(%d) of %v = %v, want %v", i, listOf(s), got, want)
			}
		}
	}
}

// P6.1: With and Without change one slot, and none by a number that isn't one.
func TestWithAndWithout(t *testing.T) {
	wantSet(t, "With(0) of none", bits.Set(0).With(0), 1)
	wantSet(t, "With(63) of none", bits.Set(0).With(63), 1<<63)
	wantSet(t, "With(64) of 40", bits.Set(40).With(64), 40)
	wantSet(t, "With(-1) of 40", bits.Set(40).With(-1), 40)
	wantSet(t, "With(3) of 40", bits.Set(40).With(3), 40)
	wantSet(t, "Without(3) of 40", bits.Set(40).Without(3), 32)
	wantSet(t, "Without(4) of 40", bits.Set(40).Without(4), 40)
	wantSet(t, "Without(67) of 40", bits.Set(40).Without(67), 40)
	wantSet(t, "Without(-61) of 40", bits.Set(40).Without(-61), 40)
	for _, s := range sets() {
		for _, i := range numbers() {
			wantSet(t, "With", s.With(i), changed(s, i, true))
			wantSet(t, "Without", s.Without(i), changed(s, i, false))
			wantSet(t, "With and Without", s.With(i).Without(i), changed(s, i, false))
		}
	}
}

// P6.1: both ends are among them; ends that are no slots, and ends that are the
// wrong way round.
func TestBetween(t *testing.T) {
	full := bits.Set(math.MaxUint64)
	wantSet(t, "Between(0, 63)", full.Between(0, 63), full)
	wantSet(t, "Between(3, 5)", full.Between(3, 5), 56)
	wantSet(t, "Between(3, 3)", full.Between(3, 3), 8)
	wantSet(t, "Between(5, 3)", full.Between(5, 3), 0)
	wantSet(t, "Between(4, 3)", full.Between(4, 3), 0)
	wantSet(t, "Between(63, 63)", full.Between(63, 63), 1<<63)
	wantSet(t, "Between(0, 0)", full.Between(0, 0), 1)
	wantSet(t, "Between(-1, 0)", full.Between(-1, 0), 1)
	wantSet(t, "Between(-2, -1)", full.Between(-2, -1), 0)
	wantSet(t, "Between(63, 64)", full.Between(63, 64), 1<<63)
	wantSet(t, "Between(64, 65)", full.Between(64, 65), 0)
	wantSet(t, "Between of all ints", full.Between(math.MinInt, math.MaxInt), full)
	wantSet(t, "Between of all ints, falling", full.Between(math.MaxInt, math.MinInt), 0)
	wantSet(t, "Between(MinInt, MinInt)", full.Between(math.MinInt, math.MinInt), 0)
	wantSet(t, "Between(MaxInt, MaxInt)", full.Between(math.MaxInt, math.MaxInt), 0)
	for _, s := range []bits.Set{0, 1, 1 << 63, 40, 0x8000000000000001, 0x5555555555555555, 0x123456789abcdef0, full} {
		for _, from := range numbers() {
			for _, to := range numbers() {
				if got, want := s.Between(from, to), betweenOf(s, from, to); got != want {
					t.Errorf("Between(%d, %d) of %v = %v, want %v", from, to, listOf(s), listOf(got), listOf(want))
				}
			}
		}
	}
}

// P6.1: the first slot that isn't below from, or -1.
func TestNext(t *testing.T) {
	wantNext(t, 0, 0, -1)
	wantNext(t, 0, math.MinInt, -1)
	wantNext(t, 0, math.MaxInt, -1)
	wantNext(t, 1, 0, 0)
	wantNext(t, 1, -1, 0)
	wantNext(t, 1, 1, -1)
	wantNext(t, 40, math.MinInt, 3)
	wantNext(t, 40, 3, 3)
	wantNext(t, 40, 5, 5)
	wantNext(t, 40, 6, -1)
	wantNext(t, 1<<63, 0, 63)
	wantNext(t, 1<<63, 63, 63)
	wantNext(t, 1<<63, 64, -1)
	wantNext(t, math.MaxUint64, 64, -1)
	wantNext(t, math.MaxUint64, math.MaxInt, -1)
	for _, s := range sets() {
		for _, from := range numbers() {
			wantNext(t, s, from, nextOf(s, from))
		}
	}
}

// P6.1: how many slots it has.
func TestCount(t *testing.T) {
	for _, s := range sets() {
		if got, want := s.Count(), len(listOf(s)); got != want {
			t.Errorf("Count of %v = %d, want %d", listOf(s), got, want)
		}
	}
	if got := bits.Set(math.MaxUint64).Count(); got != 64 {
		t.Errorf("Count of all = %d, want 64", got)
	}
}

// P6.1: Each is called with each slot once, rising, and List tells the same.
func TestEachAndList(t *testing.T) {
	for _, s := range sets() {
		var got []int
		s.Each(func(i int) { got = append(got, i) })
		if want := listOf(s); !slices.Equal(got, want) {
			t.Errorf("Each of %d: %v, want %v", uint64(s), got, want)
		}
		if want := listOf(s); !slices.Equal(s.List(), want) {
			t.Errorf("List of %d = %v, want %v", uint64(s), s.List(), want)
		}
	}
	bits.Set(0).Each(func(i int) { t.Errorf("Each of none: %d", i) })
	if l := bits.Set(0).List(); len(l) != 0 {
		t.Errorf("List of none = %v", l)
	}
}

// P6.1: what do does meanwhile, to the variable and to other sets, is no matter.
func TestEachOfWhatChanges(t *testing.T) {
	s := bits.Of(3, 5, 63)
	var got []int
	s.Each(func(i int) {
		s = s.Without(5).With(i + 1)
		s.Each(func(j int) { got = append(got, 100*i+j) })
	})
	want := []int{303, 304, 363, 503, 504, 506, 563, 6303, 6304, 6306, 6363}
	if !slices.Equal(got, want) {
		t.Errorf("Each within Each: %v, want %v", got, want)
	}
}

// P6.1, K5: a list that is handed in stays as it is, and one that is answered is
// new memory.
func TestLists(t *testing.T) {
	l := []int{70, 5, -1, 3, 5}
	s := bits.Of(l...)
	if want := []int{70, 5, -1, 3, 5}; !slices.Equal(l, want) {
		t.Errorf("Of has changed its list: %v, want %v", l, want)
	}
	l[1] = 9
	s.List()[0] = 99
	if got, want := s.List(), []int{3, 5}; !slices.Equal(got, want) {
		t.Errorf("List = %v, want %v", got, want)
	}
}
