package round_test

import (
	"math"
	"slices"
	"testing"

	"knell/api"
	"knell/round"
)

// last is MaxTime, written out as the chapter tells it.
const last = 1<<30 - 1

// edges are numbers around the bounds of a time, and far beyond them.
func edges() []int {
	return []int{
		math.MinInt, math.MinInt + 1, -1 << 40, -1 << 32, -last, -4, -2, -1,
		0, 1, 2, 3, 4, 5, 7, 8, 9, 100,
		last / 2, last/2 + 1, last - 2, last - 1, last, last + 1, last + 2, 2 * last, 2*last + 1, 2*last + 2,
		1 << 31, 1<<32 - 1, 1 << 32, 1<<32 + 5, 1 << 40, math.MaxInt - 1, math.MaxInt,
	}
}

// draws are numbers with no pattern, below 0 and beyond MaxTime too.
func draws(count int) []int {
	var l []int
	for x := uint64(88172645463325252); len(l) < count; {
		x ^= x << 13
		x ^= x >> 7
		x ^= x << 17
		l = append(l, int(x>>33)-1<<29)
	}
	return l
}

// counts gives the time that a number counts as.
func counts(n int) int {
	if n < 0 {
		return 0
	}
	if n > last {
		return last
	}
	return n
}

// walk finds when a deadline is due from multiple to multiple; for small ones.
func walk(deadline, slack int) int {
	due := 0
	for due < counts(deadline) {
		due += counts(slack) + 1
	}
	return due
}

func wantUp(t *testing.T, deadline, slack, want int) {
	t.Helper()
	if got := round.Up(deadline, slack); got != want {
		t.Errorf("Up(%d, %d) = %d, want %d", deadline, slack, got, want)
	}
}

func TestLimit(t *testing.T) {
	if api.MaxTime != last {
		t.Errorf("MaxTime is %d, want %d", api.MaxTime, last)
	}
}

// P4.1: the chapter's example, and each small deadline with each small slack.
func TestUpOfSmall(t *testing.T) {
	wantUp(t, 5, 3, 8)
	wantUp(t, 8, 3, 8)
	wantUp(t, 9, 3, 12)
	for slack := -2; slack < 40; slack++ {
		for deadline := -2; deadline < 200; deadline++ {
			wantUp(t, deadline, slack, walk(deadline, slack))
		}
	}
}

// P4.1: without a slack a deadline is due when it is.
func TestUpWithoutSlack(t *testing.T) {
	for _, deadline := range append(edges(), draws(100)...) {
		wantUp(t, deadline, 0, counts(deadline))
	}
}

// P4.1: a deadline may be due later than any clock goes.
func TestUpBeyondAllClocks(t *testing.T) {
	wantUp(t, last, 1, last+1)
	wantUp(t, last-1, 1, last-1)
	wantUp(t, last, 3, last+1)
	wantUp(t, last, 4, 1073741825)
	wantUp(t, last, 6, last)
	wantUp(t, last, last, last+1)
	wantUp(t, 1, last, last+1)
	wantUp(t, 0, last, 0)
	wantUp(t, last, last-1, last)
	wantUp(t, 1, last-1, last)
	wantUp(t, last, last-2, 2*(last-1))
	wantUp(t, last, last/2, last+1)
}

// P4.1: a number that is no time, or no slack, counts as the nearest one.
func TestUpOfWrongNumbers(t *testing.T) {
	for _, deadline := range edges() {
		for _, slack := range edges() {
			wantUp(t, deadline, slack, round.Up(counts(deadline), counts(slack)))
		}
	}
	wantUp(t, math.MinInt, 3, 0)
	wantUp(t, math.MaxInt, 0, last)
	wantUp(t, math.MaxInt, math.MaxInt, last+1)
	wantUp(t, 9, math.MinInt, 9)
	wantUp(t, 9, -1, 9)
	wantUp(t, 1, last+1, last+1)
}

// pairs calls do with many deadlines and slacks, all of which are such ones.
func pairs(do func(deadline, slack int)) {
	l := append(edges(), draws(300)...)
	for i := range l {
		l[i] = counts(l[i])
	}
	for _, deadline := range l {
		for _, slack := range l {
			do(deadline, slack)
		}
	}
}

// P4.2: never ahead of the deadline, at most the slack behind it, and (P4.1) at
// a multiple of the slack and 1: of so many times in a row there is one of these.
func TestDueWithinTheSlack(t *testing.T) {
	pairs(func(deadline, slack int) {
		due := round.Up(deadline, slack)
		if due < deadline {
			t.Errorf("Up(%d, %d) = %d: too early", deadline, slack, due)
		}
		if due > deadline+slack {
			t.Errorf("Up(%d, %d) = %d: too late", deadline, slack, due)
		}
		if due%(slack+1) != 0 {
			t.Errorf("Up(%d, %d) = %d: no multiple of %d", deadline, slack, due, slack+1)
		}
	})
}

// P4.2: what is due when it is due stays so, also beyond all clocks.
func TestDueStays(t *testing.T) {
	pairs(func(deadline, slack int) {
		due := round.Up(deadline, slack)
		wantUp(t, due, slack, due)
	})
}

// P4.2: later deadlines aren't due earlier.
func TestLaterIsNotEarlier(t *testing.T) {
	l := append(edges(), draws(300)...)
	slices.Sort(l)
	for _, slack := range append(edges(), draws(50)...) {
		for i := 1; i < len(l); i++ {
			a, b := round.Up(l[i-1], slack), round.Up(l[i], slack)
			if a > b {
				t.Errorf("with the slack %d: %d is due at %d, %d at %d", slack, l[i-1], a, l[i], b)
			}
		}
	}
}

func wantPlus(t *testing.T, want int, l ...int) {
	t.Helper()
	if got := round.Plus(l...); got != want {
		t.Errorf("Plus(%v) = %d, want %d", l, got, want)
	}
}

// P4.1: the sum of times; 0 of none.
func TestPlus(t *testing.T) {
	wantPlus(t, 0)
	wantPlus(t, 0, []int{}...)
	wantPlus(t, 7, 7)
	wantPlus(t, 12, 5, 7)
	wantPlus(t, 15, 1, 2, 3, 4, 5)
	wantPlus(t, 0, 0, 0, 0)
	wantPlus(t, last-1, last-2, 1)
	wantPlus(t, last, last-1, 1)
	wantPlus(t, last, last/2, last-last/2)
}

// P4.1: a sum is at most MaxTime.
func TestPlusAtMostMaxTime(t *testing.T) {
	wantPlus(t, last, last)
	wantPlus(t, last, last, 0)
	wantPlus(t, last, last, 1)
	wantPlus(t, last, 1, last)
	wantPlus(t, last, last, last)
	wantPlus(t, last, last-1, 1, 1)
	wantPlus(t, last, last-1, 2, 0, 0)
	for _, n := range []int{math.MaxInt, last, last / 1000} {
		wantPlus(t, last, slices.Repeat([]int{n}, 5000)...)
	}
}

// P4.1: each number counts as a time by itself, ahead of being added.
func TestPlusOfWrongNumbers(t *testing.T) {
	wantPlus(t, 8, 3, -4, 5)
	wantPlus(t, 0, -1)
	wantPlus(t, 0, math.MinInt, math.MinInt)
	wantPlus(t, 1, math.MinInt, 1)
	wantPlus(t, 1, 1, math.MinInt)
	wantPlus(t, last, last+1)
	wantPlus(t, last, math.MaxInt)
	wantPlus(t, last, math.MaxInt, -1)
	wantPlus(t, last, last, -1)
	wantPlus(t, last, math.MaxInt, math.MaxInt)
	wantPlus(t, last, math.MaxInt, math.MinInt, math.MaxInt)
	wantPlus(t, last, 1<<62, 1<<62, 7)
	wantPlus(t, last, math.MaxInt, 1, math.MinInt)
	for _, a := range edges() {
		for _, b := range edges() {
			wantPlus(t, min(counts(a)+counts(b), last), a, b)
			wantPlus(t, min(counts(a)+counts(b)+2, last), a, 2, b)
		}
	}
}

func wantBatch(t *testing.T, a, b, slack int, want bool) {
	t.Helper()
	if got := round.Batch(a, b, slack); got != want {
		t.Errorf("Batch(%d, %d, %d) = %v, want %v", a, b, slack, got, want)
	}
	if got := round.Batch(b, a, slack); got != want {
		t.Errorf("Batch(%d, %d, %d) = %v, want %v", b, a, slack, got, want)
	}
}

// P4.1: are both deadlines due at once?
func TestBatch(t *testing.T) {
	wantBatch(t, 5, 8, 3, true)
	wantBatch(t, 8, 9, 3, false)
	wantBatch(t, 4, 5, 3, false)
	wantBatch(t, 0, 1, 3, false)
	wantBatch(t, 0, 0, 3, true)
	wantBatch(t, 5, 6, 0, false)
	wantBatch(t, 6, 6, 0, true)
	wantBatch(t, 1, last, last, true)
	wantBatch(t, 0, last, last, false)
	wantBatch(t, last-1, last, 1, false)
	for slack := range 12 {
		for a := range 40 {
			for b := range 40 {
				wantBatch(t, a, b, slack, walk(a, slack) == walk(b, slack))
			}
		}
	}
}

// P4.1: numbers that are no times count as the nearest ones here too.
func TestBatchOfWrongNumbers(t *testing.T) {
	wantBatch(t, -5, 0, 3, true)
	wantBatch(t, math.MinInt, -1, 0, true)
	wantBatch(t, -5, 1, 3, false)
	wantBatch(t, last, last+1, 0, true)
	wantBatch(t, last, math.MaxInt, 1, true)
	wantBatch(t, last-1, math.MaxInt, 0, false)
	wantBatch(t, 5, 6, -3, false)
	wantBatch(t, 5, 5, math.MinInt, true)
	wantBatch(t, 1, last, math.MaxInt, true)
}

func wantBatches(t *testing.T, l []int, slack int, want ...int) {
	t.Helper()
	if got := round.Batches(l, slack); !slices.Equal(got, want) {
		t.Errorf("Batches(%v, %d) = %v, want %v", l, slack, got, want)
	}
}

// P4.1: when the deadlines are due, each time once, rising; of none no time.
func TestBatches(t *testing.T) {
	wantBatches(t, nil, 3)
	wantBatches(t, []int{}, 3)
	wantBatches(t, []int{5}, 3, 8)
	wantBatches(t, []int{5, 8, 9}, 3, 8, 12)
	wantBatches(t, []int{9, 5, 8, 0, 12}, 3, 0, 8, 12)
	wantBatches(t, []int{5, 5, 5}, 0, 5)
	wantBatches(t, []int{3, 2, 1, 0}, 0, 0, 1, 2, 3)
	wantBatches(t, []int{last, 0, 1}, last, 0, last+1)
	wantBatches(t, []int{last, last - 1, 4, 3}, 1, 4, last-1, last+1)
}

// P4.1: numbers that are no times are due with the nearest ones.
func TestBatchesOfWrongNumbers(t *testing.T) {
	wantBatches(t, []int{-1, 0, math.MinInt}, 3, 0)
	wantBatches(t, []int{math.MaxInt, last, last + 1}, 0, last)
	wantBatches(t, []int{math.MaxInt, -7, 5, 6}, -3, 0, 5, 6, last)
	wantBatches(t, []int{math.MaxInt, -7, 5, 6}, math.MaxInt, 0, last+1)
}

// P4.1: long lists, whose times are told rising whatever their order is.
func TestBatchesOfMany(t *testing.T) {
	l := append(draws(2000), edges()...)
	for _, slack := range append(edges(), 1000, 1<<20, 1<<28) {
		var want []int
		for _, deadline := range l {
			want = append(want, round.Up(deadline, slack))
		}
		slices.Sort(want)
		want = slices.Compact(want)
		for range 3 {
			slices.Reverse(l)
			if got := round.Batches(l, slack); !slices.Equal(got, want) {
				t.Fatalf("Batches with the slack %d: %d times, want %d: %v", slack, len(got), len(want), got)
			}
		}
	}
}

// P2 (K5): what is handed in is neither changed nor kept, what is answered is
// new memory.
func TestListsAreNotShared(t *testing.T) {
	l := []int{9, math.MinInt, 5, math.MaxInt, 8, 0, 12}
	was := slices.Clone(l)
	first := round.Batches(l, 3)
	second := round.Batches(l, 3)
	round.Plus(l...)
	if !slices.Equal(l, was) {
		t.Errorf("the list is %v then, want %v", l, was)
	}
	l[0] = 400
	first[0] = 77
	if want := []int{0, 8, 12, last + 1}; !slices.Equal(second, want) {
		t.Errorf("a list that was answered is %v then, want %v", second, want)
	}
	if l[0] != 400 || !slices.Equal(l[1:], was[1:]) {
		t.Errorf("the list is %v then", l)
	}
}
