package digit_test

import (
	"math"
	"testing"

	"knell/digit"
)

// last is the last time, written out as the chapter tells it.
const last = 4294967295

// edges are numbers around the bounds of a time, and far beyond them.
func edges() []int {
	return []int{
		math.MinInt, math.MinInt + 1, -1 << 40, -1<<32 - 1, -1 << 32, -last, -64, -2, -1,
		0, 1, 2, 3, 4, 7, 8, 15, 16, 27, 30, 31, 32, 63, 64, 65, 4095, 4096,
		1<<30 - 1, 1 << 30, 1<<30 + 1, 1<<31 - 1, 1 << 31, 1<<31 + 1,
		last - 64, last - 1, last, last + 1, last + 2, 1<<32 + 5, 1 << 33, 1 << 40, math.MaxInt - 1, math.MaxInt,
	}
}

// levels are numbers of levels, with those that no time has, and those whose
// bits, counted, would wrap round.
func levels() []int {
	return []int{
		math.MinInt, math.MinInt + 1, math.MinInt / 2, math.MinInt / 6, -1 << 32, -7, -1,
		0, 1, 2, 3, 4, 5, 6, 7, 8, 9, 10, 11, 15, 16, 17, 30, 31, 32, 33, 63, 64, 65, 99,
		1 << 31, 1 << 32, 1 << 58, 1 << 60, 1 << 61, 1 << 62, math.MaxInt / 6, math.MaxInt/6 + 1, math.MaxInt/2 + 1, math.MaxInt - 1, math.MaxInt,
	}
}

// widths are numbers of bits, with those that a digit can't have.
func widths() []int {
	return []int{math.MinInt, -1 << 32, -3, -1, 0, 1, 2, 3, 4, 5, 6, 7, 8, 32, 63, 64, 65, 1 << 32, math.MaxInt}
}

// draws are times with no pattern.
func draws(count int) []int {
	var l []int
	for x := uint64(88172645463325252); len(l) < count; {
		x ^= x << 13
		x ^= x >> 7
		x ^= x << 17
		l = append(l, int(x>>32))
	}
	return l
}

// counts gives the nearest number that isn't below low, nor above high.
func counts(n, low, high int) int {
	if n < low {
		return low
	}
	if n > high {
		return high
	}
	return n
}

// asTime gives the time that a number counts as.
func asTime(n int) int { return counts(n, 0, last) }

// asBits gives the bits that a number counts as.
func asBits(n int) int { return counts(n, 1, 6) }

// digits cuts a time into its digits by division, the lowest first, up to the
// highest one that any time has.
func digits(t, bits int) []int {
	base := 1
	for range asBits(bits) {
		base *= 2
	}
	var l []int
	rest := asTime(t)
	for most := last; most > 0; most /= base {
		l = append(l, rest%base)
		rest /= base
	}
	return l
}

// digitOf finds a digit in the list of them.
func digitOf(t, level, bits int) int {
	l := digits(t, bits)
	if level < 0 {
		level = 0
	}
	if level >= len(l) {
		return 0
	}
	return l[level]
}

// topOf finds the highest level that differs by looking at all of them.
func topOf(a, b, bits int) int {
	x, y := digits(a, bits), digits(b, bits)
	top := -1
	for level := range x {
		if x[level] != y[level] {
			top = level
		}
	}
	return top
}

// floorOf makes a time anew from its digits that aren't below the level.
func floorOf(t, level, bits int) int {
	base := 1 << asBits(bits)
	time, weight := 0, 1
	for at, d := range digits(t, bits) {
		if at >= level {
			time += d * weight
		}
		weight *= base
	}
	return time
}

// crossing is what Cross answers.
type crossing struct {
	first, last int
	some        bool
}

func crossOf(from, to, level, bits int) crossing {
	if level < 0 {
		level = 0
	}
	top := topOf(from, to, bits)
	switch {
	case asTime(to) <= asTime(from), level > top:
		return crossing{}
	case level < top:
		return crossing{0, 1<<asBits(bits) - 1, true}
	}
	return crossing{digitOf(from, level, bits) + 1, digitOf(to, level, bits), true}
}

// spot is what Place answers.
type spot struct{ level, slot int }

func placeOf(now, due, levels, bits int) spot {
	if asTime(due) <= asTime(now) {
		return spot{-1, -1}
	}
	top := topOf(now, due, bits)
	if top < levels {
		return spot{top, digitOf(due, top, bits)}
	}
	return spot{levels, 0}
}

func wantDigit(t *testing.T, time, level, bits, want int) {
	t.Helper()
	if got := digit.Digit(time, level, bits); got != want {
		t.Errorf("Digit(%d, %d, %d) = %d, want %d", time, level, bits, got, want)
	}
}

func wantTop(t *testing.T, a, b, bits, want int) {
	t.Helper()
	if got := digit.Top(a, b, bits); got != want {
		t.Errorf("Top(%d, %d, %d) = %d, want %d", a, b, bits, got, want)
	}
}

func wantFloor(t *testing.T, time, level, bits, want int) {
	t.Helper()
	if got := digit.Floor(time, level, bits); got != want {
		t.Errorf("Floor(%d, %d, %d) = %d, want %d", time, level, bits, got, want)
	}
}

func wantCross(t *testing.T, from, to, level, bits int, want crossing) {
	t.Helper()
	first, final, some := digit.Cross(from, to, level, bits)
	if got := (crossing{first, final, some}); got != want {
		t.Errorf("Cross(%d, %d, %d, %d) = %v, want %v", from, to, level, bits, got, want)
	}
}

func wantPlace(t *testing.T, now, due, levels, bits int, want spot) {
	t.Helper()
	level, slot := digit.Place(now, due, levels, bits)
	if got := (spot{level, slot}); got != want {
		t.Errorf("Place(%d, %d, %d, %d) = %v, want %v", now, due, levels, bits, got, want)
	}
}

// The chapter's example.
func TestExample(t *testing.T) {
	wantDigit(t, 27, 0, 2, 3)
	wantDigit(t, 27, 1, 2, 2)
	wantDigit(t, 27, 2, 2, 1)
	wantDigit(t, 27, 3, 2, 0)
	wantTop(t, 27, 30, 2, 1)
	wantPlace(t, 27, 30, 8, 2, spot{1, 3})
}

// P5.1: digits of small times, of the last time, and of levels that it hasn't.
func TestDigit(t *testing.T) {
	for time := range 600 {
		for bits := 1; bits <= 6; bits++ {
			for level := range 12 {
				wantDigit(t, time, level, bits, digitOf(time, level, bits))
			}
		}
	}
	wantDigit(t, last, 31, 1, 1)
	wantDigit(t, last, 32, 1, 0)
	wantDigit(t, last, 15, 2, 3)
	wantDigit(t, last, 16, 2, 0)
	wantDigit(t, last, 10, 3, 3)
	wantDigit(t, last, 11, 3, 0)
	wantDigit(t, last, 7, 4, 15)
	wantDigit(t, last, 8, 4, 0)
	wantDigit(t, last, 6, 5, 3)
	wantDigit(t, last, 7, 5, 0)
	wantDigit(t, last, 4, 6, 63)
	wantDigit(t, last, 5, 6, 3)
	wantDigit(t, last, 6, 6, 0)
	wantDigit(t, last, math.MaxInt, 6, 0)
}

// P5.1: a level, whose bits wrap round when they are counted, has no digit.
func TestDigitOfGreatLevels(t *testing.T) {
	for _, level := range []int{1 << 60, 1 << 61, 1 << 62, 1<<61 + 1, math.MaxInt/6 + 1, math.MaxInt} {
		for bits := 1; bits <= 6; bits++ {
			wantDigit(t, last, level, bits, 0)
			wantFloor(t, last, level, bits, 0)
			wantCross(t, 0, last, level, bits, crossing{})
		}
	}
}

// P5.1: numbers that are no times, levels or bits count as the nearest ones.
func TestDigitOfWrongNumbers(t *testing.T) {
	wantDigit(t, -1, 0, 2, 0)
	wantDigit(t, math.MinInt, 3, 6, 0)
	wantDigit(t, last+1, 0, 6, 63)
	wantDigit(t, math.MaxInt, 31, 1, 1)
	wantDigit(t, math.MaxInt, 32, 1, 0)
	wantDigit(t, 27, -1, 2, 3)
	wantDigit(t, 27, math.MinInt, 2, 3)
	wantDigit(t, 3, 0, 0, 1)
	wantDigit(t, 2, 1, -5, 1)
	wantDigit(t, 127, 0, 7, 63)
	wantDigit(t, 127, 1, math.MaxInt, 1)
	for _, time := range edges() {
		for _, level := range levels() {
			for _, bits := range widths() {
				wantDigit(t, time, level, bits, digitOf(time, level, bits))
			}
		}
	}
}

// P5.1: the highest level that differs, or -1.
func TestTop(t *testing.T) {
	wantTop(t, 27, 27, 2, -1)
	wantTop(t, 26, 27, 2, 0)
	wantTop(t, 27, 28, 2, 1)
	wantTop(t, 63, 64, 2, 3)
	wantTop(t, 63, 64, 6, 1)
	wantTop(t, 0, 63, 6, 0)
	wantTop(t, 0, last, 1, 31)
	wantTop(t, 0, last, 3, 10)
	wantTop(t, 0, last, 6, 5)
	wantTop(t, last, last-1, 6, 0)
	wantTop(t, last, last, 1, -1)
	for a := range 130 {
		for b := range 130 {
			for bits := 1; bits <= 6; bits++ {
				wantTop(t, a, b, bits, topOf(a, b, bits))
			}
		}
	}
}

// P5.1: a pair of wrong numbers is the same, if both count as one time.
func TestTopOfWrongNumbers(t *testing.T) {
	wantTop(t, -1, 0, 2, -1)
	wantTop(t, math.MinInt, -7, 2, -1)
	wantTop(t, last, last+1, 2, -1)
	wantTop(t, math.MaxInt, last, 6, -1)
	wantTop(t, math.MinInt, math.MaxInt, 6, 5)
	wantTop(t, 0, 2, 0, 1)
	wantTop(t, 0, 2, math.MinInt, 1)
	wantTop(t, 0, 64, 7, 1)
	wantTop(t, 0, last, math.MaxInt, 5)
	for _, a := range edges() {
		for _, b := range edges() {
			for _, bits := range widths() {
				wantTop(t, a, b, bits, topOf(a, b, bits))
			}
		}
	}
}

// P5.1: the digits below the level are 0, all others stay.
func TestFloor(t *testing.T) {
	wantFloor(t, 27, 0, 2, 27)
	wantFloor(t, 27, 1, 2, 24)
	wantFloor(t, 27, 2, 2, 16)
	wantFloor(t, 27, 3, 2, 0)
	wantFloor(t, last, 0, 6, last)
	wantFloor(t, last, 5, 6, 3<<30)
	wantFloor(t, last, 6, 6, 0)
	wantFloor(t, last, 31, 1, 1<<31)
	wantFloor(t, last, 32, 1, 0)
	for time := range 600 {
		for bits := 1; bits <= 6; bits++ {
			for level := range 12 {
				wantFloor(t, time, level, bits, floorOf(time, level, bits))
			}
		}
	}
}

// P5.1: a floor of numbers that are no times, levels or bits.
func TestFloorOfWrongNumbers(t *testing.T) {
	wantFloor(t, -1, 0, 2, 0)
	wantFloor(t, math.MinInt, 1, 2, 0)
	wantFloor(t, last+1, 0, 2, last)
	wantFloor(t, math.MaxInt, 1, 2, last-3)
	wantFloor(t, 27, -1, 2, 27)
	wantFloor(t, 27, math.MinInt, 2, 27)
	wantFloor(t, 27, math.MaxInt, 2, 0)
	wantFloor(t, 27, 1, 0, 26)
	wantFloor(t, 127, 1, 7, 64)
	for _, time := range edges() {
		for _, level := range levels() {
			for _, bits := range widths() {
				wantFloor(t, time, level, bits, floorOf(time, level, bits))
			}
		}
	}
}

// P5.1: all three at times of the whole range.
func TestDraws(t *testing.T) {
	l := draws(300)
	for i, a := range l {
		b := l[len(l)-1-i]
		for bits := 1; bits <= 6; bits++ {
			wantTop(t, a, b, bits, topOf(a, b, bits))
			wantTop(t, a, a^1<<(i%32), bits, i%32/bits)
			for level := range 34 {
				wantDigit(t, a, level, bits, digitOf(a, level, bits))
				wantFloor(t, a, level, bits, floorOf(a, level, bits))
			}
		}
	}
}

// P5.2: no slots, all of them, or those between the digits.
func TestCross(t *testing.T) {
	wantCross(t, 27, 30, 0, 2, crossing{0, 3, true})
	wantCross(t, 27, 30, 1, 2, crossing{3, 3, true})
	wantCross(t, 27, 30, 2, 2, crossing{})
	wantCross(t, 30, 27, 0, 2, crossing{})
	wantCross(t, 30, 27, 1, 2, crossing{})
	wantCross(t, 30, 30, 0, 2, crossing{})
	wantCross(t, 0, 1, 0, 1, crossing{1, 1, true})
	wantCross(t, 0, 63, 0, 6, crossing{1, 63, true})
	wantCross(t, 0, 64, 0, 6, crossing{0, 63, true})
	wantCross(t, 0, 64, 1, 6, crossing{1, 1, true})
	wantCross(t, 0, last, 4, 6, crossing{0, 63, true})
	wantCross(t, 0, last, 5, 6, crossing{1, 3, true})
	wantCross(t, 0, last, 6, 6, crossing{})
	wantCross(t, last-1, last, 0, 1, crossing{1, 1, true})
	wantCross(t, 1<<31-1, 1<<31, 31, 1, crossing{1, 1, true})
	wantCross(t, 1<<31-1, 1<<31, 30, 1, crossing{0, 1, true})
	for from := range 70 {
		for to := range 70 {
			for bits := 1; bits <= 6; bits++ {
				for level := range 9 {
					wantCross(t, from, to, level, bits, crossOf(from, to, level, bits))
				}
			}
		}
	}
}

// P5.2: a level below 0 counts as 0, and times are held against each other as
// what they count as.
func TestCrossOfWrongNumbers(t *testing.T) {
	wantCross(t, 27, 30, -1, 2, crossing{0, 3, true})
	wantCross(t, 28, 30, -1, 2, crossing{1, 2, true})
	wantCross(t, 28, 30, math.MinInt, 2, crossing{1, 2, true})
	wantCross(t, 5, 5, -1, 2, crossing{})
	wantCross(t, 5, 4, math.MinInt, 2, crossing{})
	wantCross(t, -5, 0, 0, 2, crossing{})
	wantCross(t, math.MinInt, -1, 0, 2, crossing{})
	wantCross(t, -5, 2, 0, 2, crossing{1, 2, true})
	wantCross(t, last, last+1, 0, 2, crossing{})
	wantCross(t, last-1, math.MaxInt, 0, 2, crossing{3, 3, true})
	wantCross(t, 0, 2, 0, 0, crossing{0, 1, true})
	wantCross(t, 0, 64, 0, 7, crossing{0, 63, true})
	for _, from := range edges() {
		for _, to := range edges() {
			for _, level := range levels() {
				for _, bits := range []int{math.MinInt, 0, 1, 2, 5, 6, 7, math.MaxInt} {
					wantCross(t, from, to, level, bits, crossOf(from, to, level, bits))
				}
			}
		}
	}
}

// P5.3: what isn't later has no place; what is later has one, or is far off.
func TestPlace(t *testing.T) {
	wantPlace(t, 27, 27, 8, 2, spot{-1, -1})
	wantPlace(t, 27, 26, 8, 2, spot{-1, -1})
	wantPlace(t, 27, 28, 8, 2, spot{1, 3})
	wantPlace(t, 28, 30, 8, 2, spot{0, 2})
	wantPlace(t, 27, 64, 3, 2, spot{3, 0})
	wantPlace(t, 27, 64, 4, 2, spot{3, 1})
	wantPlace(t, 27, 63, 3, 2, spot{2, 3})
	wantPlace(t, 27, 63, 2, 2, spot{2, 0})
	wantPlace(t, 0, last, 5, 6, spot{5, 0})
	wantPlace(t, 0, last, 6, 6, spot{5, 3})
	wantPlace(t, 0, last, 31, 1, spot{31, 0})
	wantPlace(t, 0, last, 32, 1, spot{31, 1})
	wantPlace(t, 0, last, math.MaxInt, 4, spot{7, 15})
	for now := range 70 {
		for due := range 70 {
			for bits := 1; bits <= 6; bits++ {
				for count := range 9 {
					wantPlace(t, now, due, count, bits, placeOf(now, due, count, bits))
				}
			}
		}
	}
}

// P5.3: numbers that are no times or bits, and counts of no levels at all, which
// are answered as they are.
func TestPlaceOfWrongNumbers(t *testing.T) {
	wantPlace(t, -5, 0, 8, 2, spot{-1, -1})
	wantPlace(t, math.MinInt, -1, 8, 2, spot{-1, -1})
	wantPlace(t, -5, 2, 8, 2, spot{0, 2})
	wantPlace(t, last, math.MaxInt, 8, 2, spot{-1, -1})
	wantPlace(t, last-1, math.MaxInt, 8, 2, spot{0, 3})
	wantPlace(t, 0, 2, 8, 0, spot{1, 1})
	wantPlace(t, 0, 64, 8, 7, spot{1, 1})
	wantPlace(t, 0, 1, 0, 2, spot{0, 0})
	wantPlace(t, 1, 1, 0, 2, spot{-1, -1})
	wantPlace(t, 0, 1, -3, 2, spot{-3, 0})
	wantPlace(t, 1, 0, -3, 2, spot{-1, -1})
	wantPlace(t, 0, 1, math.MinInt, 2, spot{math.MinInt, 0})
	for _, now := range edges() {
		for _, due := range edges() {
			for _, count := range levels() {
				for _, bits := range []int{math.MinInt, 0, 1, 2, 5, 6, 7, math.MaxInt} {
					wantPlace(t, now, due, count, bits, placeOf(now, due, count, bits))
				}
			}
		}
	}
}

// isPassed tells whether a slot is passed from one time to another one.
func isPassed(at spot, from, to, count, bits int) bool {
	if at.level == count {
		return digit.Top(from, to, bits) >= count
	}
	first, final, some := digit.Cross(from, to, at.level, bits)
	return some && first <= at.slot && at.slot <= final
}

// wantStay holds P5.4 for what is due: as seen from both times it stands at one
// place, unless its slot is passed.
func wantStay(t *testing.T, from, to, due, count, bits int) {
	t.Helper()
	level, slot := digit.Place(from, due, count, bits)
	at := spot{level, slot}
	if at == (spot{-1, -1}) {
		wantPlace(t, to, due, count, bits, at) // what is due stays so
		return
	}
	if isPassed(at, from, to, count, bits) {
		return
	}
	wantPlace(t, to, due, count, bits, at)
	if asTime(due) <= asTime(to) {
		t.Errorf("due at %d, its slot %v isn't passed from %d to %d (%d levels, %d bits)", due, at, from, to, count, bits)
	}
}

// P5.4: small times.
func TestStays(t *testing.T) {
	for to := range 72 {
		for from := range to {
			for due := range 80 {
				for bits := 1; bits <= 3; bits++ {
					for count := range 6 {
						wantStay(t, from, to, due, count, bits)
					}
				}
			}
		}
	}
}

// P5.4: times of the whole range, near each other and far from each other, and
// numbers that are no times.
func TestStaysFarOff(t *testing.T) {
	l := append(draws(16), edges()...)
	for i, time := range draws(16) {
		l = append(l, time>>(2*i), l[i]+i, l[i]^1<<(2*i))
	}
	for _, from := range l {
		for _, to := range l {
			if to <= from {
				continue
			}
			for _, due := range l {
				wantStay(t, from, to, due, 3+due&3, 1+due>>2&3)
				wantStay(t, from, to, due, 8, 4)
				wantStay(t, from, to, due, 5, 6)
			}
		}
	}
}

// comesOf gives the first time at which a slot is passed, as seen from a time:
// when its digit comes, or, of what is far off, when the levels begin anew.
func comesOf(at spot, from, due, count, bits int) int {
	if at.level == count {
		return floorOf(from, count, bits) + 1<<(count*bits)
	}
	return floorOf(due, at.level, bits)
}

// P5.2, P5.3: a slot is passed from the time on at which it comes, not earlier.
func TestPassedWhenItComes(t *testing.T) {
	const bits, count = 2, 3
	for from := range 100 {
		for due := from + 1; due < 200; due++ {
			level, slot := digit.Place(from, due, count, bits)
			at := spot{level, slot}
			comes := comesOf(at, from, due, count, bits)
			for to := from; to < 200; to++ {
				if got := isPassed(at, from, to, count, bits); got != (to >= comes) {
					t.Fatalf("due at %d, at %v: passed from %d to %d: %v; it comes at %d", due, at, from, to, got, comes)
				}
			}
		}
	}
}
