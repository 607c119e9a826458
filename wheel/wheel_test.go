package wheel_test

import (
	"math"
	"slices"
	"testing"

	"knell/api"
	"knell/cell"
	"knell/step"
	"knell/wheel"
)

// lastTime is the latest time at which a ticket may be due.
const lastTime = math.MaxUint32

// other is what the cells have that are none of the wheel's, and the links of
// tickets that stand nowhere.
const other = math.MaxUint64

const insertSteps = 10 // P10.4: so many steps an Insert has at most

// The wheels of these tests have a cell of nobody's ahead of each level, each
// list, and each link.
func mapCell(bits, level int) int { return 3 + level*2*(1+1<<bits) }

func slotCell(bits, level, i int) int { return mapCell(bits, level) + 2*(1+i) }

// linkCell is cut where 2*t would wrap round: there are no such cells.
func linkCell(levels, bits, t int) int {
	return mapCell(bits, levels) + 2*min(max(t, -1<<32), 1<<32)
}

func nothing() step.Code { return nil }

// newWheel is a wheel that has nothing, for the tickets 0 to tickets-1.
func newWheel(t *testing.T, levels, bits, tickets int) wheel.Wheel {
	t.Helper()
	cells := slices.Repeat([]uint64{other}, linkCell(levels, bits, tickets))
	cells[1] = 0
	for level := range levels {
		cells[mapCell(bits, level)] = 0
		for i := range 1 << bits {
			cells[slotCell(bits, level, i)] = 0
		}
	}
	return wheelIn(t, cells, levels, bits)
}

// wheelIn is a wheel in any cells. It is asked for its own levels and slots alone.
func wheelIn(t *testing.T, cells []uint64, levels, bits int) wheel.Wheel {
	t.Helper()
	a, e := cell.Of(cells)
	if e != api.OK {
		t.Fatalf("cell.Of of %d numbers answers the error %d", len(cells), e)
	}
	return wheel.Wheel{
		Cells: a, Levels: levels, Bits: bits, Over: 1,
		Map: func(level int) int {
			if level < 0 || level >= levels {
				t.Errorf("Map is asked for the level %d of %d", level, levels)
			}
			return mapCell(bits, level)
		},
		Slot: func(level, i int) int {
			if level < 0 || level >= levels || i < 0 || i >= 1<<bits {
				t.Errorf("Slot is asked for the slot %d of the level %d of %d", i, level, levels)
			}
			return slotCell(bits, level, i)
		},
		Link: func(t int) int { return linkCell(levels, bits, t) },
	}
}

// run does code, alone: each of its steps has one access at most (P10.4), and
// there are no more than told. It gives how many there were.
func run(t *testing.T, what string, w wheel.Wheel, most int, c step.Code) int {
	t.Helper()
	x := step.New(c)
	for !x.Ended() {
		if x.Steps() == most {
			t.Fatalf("%s isn't through within %d steps", what, most)
		}
		count := w.Cells.Count()
		x.Step()
		if n := w.Cells.Count() - count; n > 1 {
			t.Fatalf("%s has a step of %d accesses", what, n)
		}
	}
	return x.Steps()
}

func insert(t *testing.T, w wheel.Wheel, i, now, due int) {
	t.Helper()
	times := 0
	c := w.Insert(i, now, due, func() step.Code {
		times++
		return nil
	})
	if times != 0 {
		t.Errorf("Insert(%d, %d, %d) goes on ahead of its first step", i, now, due)
	}
	run(t, "Insert", w, insertSteps, c)
	if times != 1 {
		t.Errorf("Insert(%d, %d, %d) goes on %d times, want once", i, now, due, times)
	}
}

// passes gives what a Pass goes on with; slots is how many are passed at most (P10.4).
func passes(t *testing.T, w wheel.Wheel, from, to, slots int) []int {
	t.Helper()
	var l []int
	times := 0
	run(t, "Pass", w, 10+4*w.Levels+2*slots, w.Pass(from, to, func(firsts []int) step.Code {
		l = firsts
		times++
		return nil
	}))
	if times != 1 {
		t.Errorf("Pass(%d, %d) goes on %d times, want once", from, to, times)
	}
	return l
}

func wantPass(t *testing.T, w wheel.Wheel, from, to int, want ...int) {
	t.Helper()
	if got := passes(t, w, from, to, w.Levels<<w.Bits); !slices.Equal(got, want) {
		t.Errorf("Pass(%d, %d) goes on with %v, want %v", from, to, got, want)
	}
}

// peeks gives what a Peek goes on with; it changes nothing.
func peeks(t *testing.T, w wheel.Wheel, now int) int {
	t.Helper()
	before := w.Cells.All()
	at, times := 0, 0
	run(t, "Peek", w, 10+2*max(w.Levels, 1), w.Peek(now, func(due int) step.Code {
		at = due
		times++
		return nil
	}))
	if times != 1 {
		t.Errorf("Peek(%d) goes on %d times, want once", now, times)
	}
	if got := w.Cells.All(); !slices.Equal(got, before) {
		t.Errorf("Peek(%d) makes the cells %v of %v", now, got, before)
	}
	return at
}

func wantPeek(t *testing.T, w wheel.Wheel, now, want int) {
	t.Helper()
	if got := peeks(t, w, now); got != want {
		t.Errorf("Peek(%d) goes on with %d, want %d", now, got, want)
	}
}

func wantList(t *testing.T, what string, w wheel.Wheel, want ...wheel.Ticket) {
	t.Helper()
	if got := w.List(); !slices.Equal(got, want) {
		t.Errorf("%s: List() = %v, want %v", what, got, want)
	}
}

// The chapter's example.
func TestExample(t *testing.T) {
	w := newWheel(t, 4, 2, 1)
	insert(t, w, 0, 27, 30)
	wantList(t, "Insert", w, wheel.Ticket{T: 0, Level: 1, Slot: 3})
	wantPeek(t, w, 27, 28)
	wantPass(t, w, 27, 28, 0)
	wantList(t, "Pass", w)
	wantPeek(t, w, 28, -1)
}

// P10.1: where it stands, as seen from now; the far ends of times, levels and bits.
func TestInsertPlace(t *testing.T) {
	for _, x := range []struct {
		levels, bits, now, due int
		level, slot            int
	}{
		{4, 2, 27, 28, 1, 3},
		{4, 2, 28, 30, 0, 2},
		{4, 2, 27, 32, 2, 2},
		{4, 2, 27, 64, 3, 1},
		{4, 2, 27, 255, 3, 3},
		{4, 2, 27, 256, 4, 0},
		{4, 2, 0, 1, 0, 1},
		{4, 2, 0, 3, 0, 3},
		{4, 2, 3, 4, 1, 1},
		{4, 2, 255, 256, 4, 0},
		{4, 2, 256, 511, 3, 3},
		{1, 1, 0, 1, 0, 1},
		{1, 1, 1, 2, 1, 0},
		{1, 1, 2, 3, 0, 1},
		{1, 6, 0, 63, 0, 63},
		{1, 6, 64, 65, 0, 1},
		{1, 6, 63, 64, 1, 0},
		{8, 1, 0, 255, 7, 1},
		{8, 1, 0, 256, 8, 0},
		{8, 4, 0, lastTime, 7, 15},
		{8, 4, lastTime - 1, lastTime, 0, 15},
		{8, 3, 0, lastTime, 8, 0},
		{8, 6, 0, lastTime, 5, 3},
		{8, 6, 0, 1 << 30, 5, 1},
		{6, 6, 0, lastTime, 5, 3},
		{5, 6, 0, lastTime, 5, 0},
		{5, 6, 3 << 30, lastTime, 4, 63},
	} {
		w := newWheel(t, x.levels, x.bits, 2)
		insert(t, w, 1, x.now, x.due)
		if got, want := w.List(), []wheel.Ticket{{T: 1, Level: x.level, Slot: x.slot}}; !slices.Equal(got, want) {
			t.Errorf("%+v: List() = %v, want %v", x, got, want)
		}
	}
}

// P10.1, Words: what stands in the cells: the first ticket and 1, the link of the
// next one, the bit; and nothing else is touched.
func TestInsertCells(t *testing.T) {
	const levels, bits = 2, 2
	w := newWheel(t, levels, bits, 6)
	want := w.Cells.All()
	for _, x := range []struct{ i, due, list, link, level, set int }{
		{2, 6, slotCell(bits, 0, 2), 0, 0, 4},
		{0, 6, slotCell(bits, 0, 2), 3, 0, 4},
		{3, 7, slotCell(bits, 0, 3), 0, 0, 12},
		{1, 6, slotCell(bits, 0, 2), 1, 0, 12},
		{5, 12, slotCell(bits, 1, 3), 0, 1, 8},
		{4, 15, slotCell(bits, 1, 3), 6, 1, 8},
	} {
		insert(t, w, x.i, 5, x.due)
		want[x.list] = uint64(x.i + 1)
		want[linkCell(levels, bits, x.i)] = uint64(x.link)
		want[mapCell(bits, x.level)] = uint64(x.set)
		if got := w.Cells.All(); !slices.Equal(got, want) {
			t.Fatalf("%+v: the cells are %v, want %v", x, got, want)
		}
	}
}

// P10.1: of what is far off there is no bit.
func TestInsertFarOff(t *testing.T) {
	w := newWheel(t, 2, 2, 3)
	want := w.Cells.All()
	insert(t, w, 2, 5, 16)
	insert(t, w, 0, 5, lastTime)
	want[1], want[linkCell(2, 2, 2)], want[linkCell(2, 2, 0)] = 1, 0, 3
	if got := w.Cells.All(); !slices.Equal(got, want) {
		t.Errorf("the cells are %v, want %v", got, want)
	}
	wantList(t, "Insert", w, wheel.Ticket{T: 0, Level: 2}, wheel.Ticket{T: 2, Level: 2})
}

// P10.1: behind each step of an Insert the tickets that stood in the wheel still do.
func TestInsertMidway(t *testing.T) {
	for _, due := range []int{6, 9, 16} {
		w := newWheel(t, 2, 2, 3)
		insert(t, w, 0, 5, due)
		insert(t, w, 1, 5, due)
		x := step.New(w.Insert(2, 5, due, nothing))
		for !x.Step() {
			l := w.List()
			if n := len(l); n < 2 || l[n-1].T != 0 || l[n-2].T != 1 {
				t.Errorf("due at %d, behind %d steps: List() = %v", due, x.Steps(), l)
			}
		}
	}
}

// P10.1: by levels, by slots, list by list; no access; new memory (K5).
func TestList(t *testing.T) {
	wantList(t, "a wheel that has nothing", newWheel(t, 8, 6, 1))
	w := newWheel(t, 2, 2, 8)
	for i, due := range []int{22, 16, 9, 7, 12, 10, 6, 6} {
		insert(t, w, i, 5, due)
	}
	count, before := w.Cells.Count(), w.Cells.All()
	l := w.List()
	l[0] = wheel.Ticket{T: 77, Level: 78, Slot: 79}
	wantList(t, "Inserts", w,
		wheel.Ticket{T: 7, Level: 0, Slot: 2}, wheel.Ticket{T: 6, Level: 0, Slot: 2}, wheel.Ticket{T: 3, Level: 0, Slot: 3},
		wheel.Ticket{T: 5, Level: 1, Slot: 2}, wheel.Ticket{T: 2, Level: 1, Slot: 2}, wheel.Ticket{T: 4, Level: 1, Slot: 3},
		wheel.Ticket{T: 1, Level: 2, Slot: 0}, wheel.Ticket{T: 0, Level: 2, Slot: 0})
	if got := w.Cells.Count(); got != count {
		t.Errorf("List has %d accesses", got-count)
	}
	if got := w.Cells.All(); !slices.Equal(got, before) {
		t.Errorf("List makes the cells %v of %v", got, before)
	}
}

// P10.2: by levels, by slots, what is far off last; a list's first ticket is told
// alone, and links the others still.
func TestPassOrder(t *testing.T) {
	w := newWheel(t, 2, 2, 9)
	for i, due := range []int{22, 11, 16, 12, 3, 4, 3, 2, 8} {
		insert(t, w, i, 1, due)
	}
	links := w.Cells.All()[linkCell(2, 2, 0):]
	wantPass(t, w, 1, 16, 7, 6, 5, 8, 3, 2)
	if got := w.Cells.All()[linkCell(2, 2, 0):]; !slices.Equal(got, links) {
		t.Errorf("Pass makes the links %v of %v", got, links)
	}
	wantList(t, "Pass", w)
	for _, i := range []int{1, mapCell(2, 0), mapCell(2, 1), slotCell(2, 0, 3), slotCell(2, 1, 3)} {
		if v := w.Cells.All()[i]; v != 0 {
			t.Errorf("behind a Pass of all cell %d has %d", i, v)
		}
	}
}

// P10.2: just what is passed: the slots behind from's digit, up to that of to;
// all of the levels below; and what is far off, if Top isn't below Levels.
func TestPassTakes(t *testing.T) {
	for _, x := range []struct {
		to     int
		firsts []int
		sets   []uint64
	}{
		{-7, nil, []uint64{12, 12}},
		{5, nil, []uint64{12, 12}},
		{6, []int{0}, []uint64{8, 12}},
		{7, []int{0, 1}, []uint64{0, 12}},
		{8, []int{0, 1, 2}, []uint64{0, 8}},
		{11, []int{0, 1, 2}, []uint64{0, 8}},
		{12, []int{0, 1, 2, 3}, []uint64{0, 0}},
		{15, []int{0, 1, 2, 3}, []uint64{0, 0}},
		{16, []int{0, 1, 2, 3, 4}, []uint64{0, 0}},
		{lastTime, []int{0, 1, 2, 3, 4}, []uint64{0, 0}},
		{math.MaxInt, []int{0, 1, 2, 3, 4}, []uint64{0, 0}},
	} {
		w := newWheel(t, 2, 2, 5)
		for i, due := range []int{6, 7, 8, 12, 16} {
			insert(t, w, i, 5, due)
		}
		wantPass(t, w, 5, x.to, x.firsts...)
		var rest []int
		for _, x := range w.List() {
			rest = append(rest, x.T)
		}
		if got := slices.Concat(x.firsts, rest); !slices.Equal(got, []int{0, 1, 2, 3, 4}) {
			t.Errorf("Pass to %d: in the wheel are still %v", x.to, rest)
		}
		all := w.Cells.All()
		if got := []uint64{all[mapCell(2, 0)], all[mapCell(2, 1)]}; !slices.Equal(got, x.sets) {
			t.Errorf("Pass to %d: the sets are %v, want %v", x.to, got, x.sets)
		}
	}
}

// P10.2: if to isn't later than from, it is of none, without a step: what then
// answers is the code. So it is where both count as the same time.
func TestPassWithoutStep(t *testing.T) {
	for _, x := range []struct{ from, to int }{
		{5, 5}, {5, 4}, {16, 0}, {0, 0}, {lastTime, 0}, {0, -1}, {math.MaxInt, math.MinInt},
		{-9, -3}, {math.MinInt, 0}, {lastTime, math.MaxInt}, {1 << 32, 1 << 33},
	} {
		w := newWheel(t, 2, 2, 3)
		for i, due := range []int{1, 9, lastTime} {
			insert(t, w, i, 0, due)
		}
		count, times := w.Cells.Count(), 0
		c := w.Pass(x.from, x.to, func(firsts []int) step.Code {
			times++
			if len(firsts) > 0 {
				t.Errorf("Pass(%d, %d) goes on with %v", x.from, x.to, firsts)
			}
			return nil
		})
		if c != nil || times != 1 || w.Cells.Count() != count {
			t.Errorf("Pass(%d, %d) has a step, or goes on %d times", x.from, x.to, times)
		}
	}
}

// P10.2: those whose bit is set: a list without its bit stays; so does one that
// isn't passed, as its slot isn't behind from's digit. A bit whose list has nothing
// is cleared, but there is no first ticket of it.
func TestPassBits(t *testing.T) {
	w := newWheel(t, 2, 2, 3)
	for i, due := range []int{5, 6, 7} {
		insert(t, w, i, 4, due)
	}
	w.Cells.Store(mapCell(2, 0), 10)
	w.Cells.Store(mapCell(2, 1), 4)
	wantPass(t, w, 4, 9, 0, 2)
	wantList(t, "Pass", w, wheel.Ticket{T: 1, Level: 0, Slot: 2})
	if all := w.Cells.All(); all[mapCell(2, 0)] != 0 || all[mapCell(2, 1)] != 0 {
		t.Errorf("the sets are %d and %d", all[mapCell(2, 0)], all[mapCell(2, 1)])
	}
	w = newWheel(t, 2, 2, 3)
	for i, due := range []int{5, 6, 7} {
		insert(t, w, i, 4, due)
	}
	wantPass(t, w, 5, 6, 1)
	wantList(t, "Pass", w, wheel.Ticket{T: 0, Level: 0, Slot: 1}, wheel.Ticket{T: 2, Level: 0, Slot: 3})
	if set := w.Cells.All()[mapCell(2, 0)]; set != 10 {
		t.Errorf("the set is %d, want 10", set)
	}
}

// P10.2: the firsts of a code that is done twice, in part, are new memory each
// time (K5).
func TestPassTwice(t *testing.T) {
	w := newWheel(t, 2, 2, 8)
	var got [][]int
	c := w.Pass(0, 15, func(firsts []int) step.Code {
		got = append(got, firsts)
		return nil
	})
	for _, due := range []int{1, 2, 3, 4, 8, 12} {
		insert(t, w, due/2, 0, due)
	}
	before := w.Cells.All()
	for n := range 2 {
		for i, v := range before {
			w.Cells.Store(i, v)
		}
		if n == 1 {
			w.Cells.Store(slotCell(2, 1, 3), 8)
		}
		run(t, "Pass", w, 40, c)
	}
	want := [][]int{{0, 1, 1, 2, 4, 6}, {0, 1, 1, 2, 4, 7}}
	if !slices.EqualFunc(got, want, slices.Equal) {
		t.Errorf("a Pass that is done twice goes on with %v, want %v", got, want)
	}
}

// P10.4: the lowest level with a slot behind now's digit whose bit is set; the
// first such slot; what is far off only if there is none.
func TestPeek(t *testing.T) {
	for _, x := range []struct{ levels, bits, now, due, want int }{
		{4, 2, 27, 28, 28},
		{4, 2, 28, 31, 31},
		{4, 2, 27, 47, 32},
		{4, 2, 27, 191, 128},
		{4, 2, 27, 257, 256},
		{4, 2, 256 + 27, 700, 512},
		{1, 1, 6, 7, 7},
		{1, 1, 7, 8, 8},
		{1, 1, 7, lastTime, 8},
		{1, 6, 65, 127, 127},
		{8, 1, 0, 200, 128},
		{8, 1, 300, lastTime, 512},
		{8, 3, 5, lastTime, 1 << 24},
		{8, 4, 5, lastTime, 15 << 28},
		{8, 4, lastTime - 1, lastTime, lastTime},
		{8, 6, 5, lastTime, 3 << 30},
		{5, 6, 5, lastTime, 1 << 30},
		{5, 6, 5 << 28, lastTime, 2 << 30},
		{5, 6, 3 << 30, lastTime, 3<<30 + 63<<24},
	} {
		w := newWheel(t, x.levels, x.bits, 1)
		wantPeek(t, w, x.now, -1)
		insert(t, w, 0, x.now, x.due)
		if got := peeks(t, w, x.now); got != x.want {
			t.Errorf("%+v: Peek goes on with %d", x, got)
		}
	}
}

// P10.4: of several the one that is nearest, level by level.
func TestPeekNearest(t *testing.T) {
	w := newWheel(t, 2, 2, 6)
	for i, x := range []struct{ due, want int }{{40, 16}, {16, 16}, {15, 12}, {9, 8}, {7, 7}, {6, 6}} {
		insert(t, w, i, 5, x.due)
		wantPeek(t, w, 5, x.want)
	}
	for _, x := range []struct{ from, to, want int }{{5, 6, 7}, {6, 7, 8}, {7, 8, 12}, {8, 11, 12}, {11, 14, 16}, {14, 16, -1}} {
		passes(t, w, x.from, x.to, 8)
		wantPeek(t, w, x.to, x.want)
	}
}

// P10.4: a slot that isn't behind now's digit isn't told, whatever its bit; nor
// are bits of slots that there aren't.
func TestPeekBits(t *testing.T) {
	w := newWheel(t, 3, 2, 0)
	w.Cells.Store(mapCell(2, 0), 1<<0|1<<1|1<<2|1<<4|1<<63)
	w.Cells.Store(mapCell(2, 1), 1<<0|1<<1|1<<5)
	w.Cells.Store(mapCell(2, 2), 1<<1|1<<3)
	wantPeek(t, w, 6, 16)
	wantPeek(t, w, 5, 6)
	wantPeek(t, w, 16, 17)
	wantPeek(t, w, 18, 20)
	wantPeek(t, w, 22, 48)
	wantPeek(t, w, 62, -1)
	w.Cells.Store(1, 1)
	wantPeek(t, w, 62, 64)
	wantPeek(t, w, 127, 128)
}

// P10.1, P10.2, P10.4: they go on with the rest that then answers, which isn't
// begun within the same step.
func TestGoesOn(t *testing.T) {
	w := newWheel(t, 1, 1, 1)
	told := 0
	note := func(n int) step.Code {
		return step.Idle(func() step.Code {
			told = n
			return nil
		})
	}
	var insides []int
	codes := []step.Code{
		w.Peek(0, func(due int) step.Code { insides = append(insides, due); return note(1) }),
		w.Insert(0, 0, 1, func() step.Code { insides = append(insides, 7); return note(2) }),
		w.Peek(0, func(due int) step.Code { insides = append(insides, due); return note(3) }),
		w.Pass(0, 1, func(firsts []int) step.Code { insides = append(insides, firsts...); return note(4) }),
		w.Pass(1, 1, func(firsts []int) step.Code { insides = append(insides, 8); return note(5) }),
	}
	insides = nil // Pass(1, 1) has gone on already
	for n, c := range codes {
		x := step.New(c)
		for len(insides) <= n && n < 4 {
			x.Step()
		}
		if x.Ended() || told != n {
			t.Errorf("the rest of %d is begun too early, or is missing: told is %d", n+1, told)
		}
		if !x.Finish(1) || told != n+1 {
			t.Errorf("the rest of %d isn't done: told is %d", n+1, told)
		}
	}
	if want := []int{-1, 7, 1, 0}; !slices.Equal(insides, want) {
		t.Errorf("they go on with %v, want %v", insides, want)
	}
}

// P10.1, P1: what is no ticket, as it is below 0, or has no cell for its link, isn't
// put; nor is what isn't due later, as it has no place. The Insert goes on, and
// no other ticket is lost.
func TestInsertOfNoTicket(t *testing.T) {
	type wrong struct{ i, now, due int }
	l := []wrong{
		{3, 4, 4}, {3, 4, 3}, {3, 4, 0}, {3, 0, 0}, {3, -3, -1}, {3, -1, 0}, {3, 4, math.MinInt},
		{3, lastTime, lastTime}, {3, lastTime, math.MaxInt}, {3, math.MaxInt, 5}, {3, 1 << 40, 1 << 41},
	}
	for _, i := range []int{math.MinInt, -1 << 32, -2, -1, 4, 1 << 32, 1<<62 + 1, math.MaxInt} {
		for _, due := range []int{6, 9, 16} {
			l = append(l, wrong{i, 4, due})
		}
	}
	for _, x := range l {
		w := newWheel(t, 2, 2, 4)
		for i, due := range []int{6, 9, 16} {
			insert(t, w, i, 4, due)
		}
		before := w.Cells.All()
		insert(t, w, x.i, x.now, x.due)
		if got := w.Cells.All(); !slices.Equal(got, before) {
			t.Errorf("Insert(%d, %d, %d) makes the cells %v of %v", x.i, x.now, x.due, got, before)
		}
	}
}

// P10.1: times count as layer 5 has them: one below 0 as 0, one that is too great
// as the greatest.
func TestFarTimes(t *testing.T) {
	for _, x := range []struct{ now, due, level, slot, peek int }{
		{-5, 1, 0, 1, 1},
		{math.MinInt, 6, 1, 1, 4},
		{0, math.MaxInt, 8, 0, 1 << 16},
		{math.MinInt, math.MaxInt, 8, 0, 1 << 16},
		{lastTime - 1, 1 << 32, 0, 3, lastTime},
	} {
		w := newWheel(t, 8, 2, 1)
		insert(t, w, 0, x.now, x.due)
		wantList(t, "Insert", w, wheel.Ticket{T: 0, Level: x.level, Slot: x.slot})
		wantPeek(t, w, x.now, x.peek)
		wantPass(t, w, x.now, x.due, 0)
		wantList(t, "Pass", w)
	}
}

// P10.1: any number may be a ticket's that has a cell for its link.
func TestGreatestTicket(t *testing.T) {
	for _, due := range []int{1, 2} {
		w := newWheel(t, 1, 1, 2)
		w.Link = func(t int) int { return linkCell(1, 1, t%2) }
		for _, i := range []int{1<<32 - 1, math.MaxInt - 1} {
			insert(t, w, i, 0, due)
		}
		l := w.List()
		if len(l) != 2 || l[0].T != math.MaxInt-1 || l[1].T != 1<<32-1 {
			t.Errorf("List() = %v", l)
		}
		w.Link = func(t int) int { return linkCell(1, 1, 1) }
		insert(t, w, math.MaxInt, 0, due)
		wantPass(t, w, 0, 2, math.MaxInt)
	}
}

// P1: cells that a wheel should have, but that there aren't. What would stand
// there isn't put, and nothing else is changed.
func TestMissingCells(t *testing.T) {
	for _, no := range []int{math.MinInt, -1, 1000, math.MaxInt} {
		for _, missing := range []func(w *wheel.Wheel){
			func(w *wheel.Wheel) { w.Over = no },
			func(w *wheel.Wheel) { w.Map = func(int) int { return no } },
			func(w *wheel.Wheel) { w.Slot = func(int, int) int { return no } },
			func(w *wheel.Wheel) { w.Link = func(int) int { return no } },
		} {
			w := newWheel(t, 2, 2, 3)
			missing(&w)
			for i, due := range []int{3, 9, 16} {
				before := w.Cells.All()
				insert(t, w, i, 1, due)
				l, stays := w.List(), slices.Equal(w.Cells.All(), before)
				if stands := slices.ContainsFunc(l, func(x wheel.Ticket) bool { return x.T == i }); stands == stays {
					t.Errorf("without cell %d, due at %d: List() = %v, and the cells stay: %t", no, due, l, stays)
				}
			}
			n := len(w.List())
			peeks(t, w, 1)
			if l := passes(t, w, 1, 16, 8); len(l) != n || len(w.List()) != 0 {
				t.Errorf("without cell %d: Pass goes on with %v of %d", no, l, n)
			}
		}
	}
}

// P1: numbers of levels and bits that no wheel has: every call ends, and none
// panics; what was put is taken off again.
func TestNoSuchWheel(t *testing.T) {
	for _, levels := range []int{math.MinInt, -1, 0, 1, 8, 9, 64, math.MaxInt} {
		for _, bits := range []int{math.MinInt, -1, 0, 1, 6, 7, 64, math.MaxInt} {
			w := newWheel(t, 8, 6, 3)
			w.Levels, w.Bits = levels, bits
			for i, due := range []int{1, 70, lastTime} {
				insert(t, w, i, 0, due)
			}
			if l := w.List(); len(l) != 3 {
				t.Errorf("%d levels of %d bits: List() = %v", levels, bits, l)
			}
			run(t, "Peek", w, 30, w.Peek(0, func(int) step.Code { return nil }))
			run(t, "Pass", w, 1100, w.Pass(0, lastTime, func(firsts []int) step.Code { return nil }))
			if l := w.List(); len(l) != 0 {
				t.Errorf("%d levels of %d bits: behind a Pass List() = %v", levels, bits, l)
			}
		}
	}
}

// P1: cells that are no wheel's: rings, links that tell no ticket, tickets
// without a cell. Every call ends, and none panics.
func TestBrokenCells(t *testing.T) {
	for _, v := range []uint64{1, 2, 3, 4, 99, 1 << 32, math.MaxInt, 1 << 63, 1<<63 + 1, math.MaxUint64} {
		cells := slices.Repeat([]uint64{v}, linkCell(2, 2, 3))
		w := wheelIn(t, cells, 2, 2)
		if l := w.List(); len(l) > 9*len(cells) {
			t.Errorf("cells of %d: List() has %d tickets", v, len(l))
		}
		insert(t, w, 1, 0, 5)
		peeks(t, w, 3)
		if l := passes(t, w, 0, 16, 8); len(l) > 9 || slices.ContainsFunc(l, func(t int) bool { return t < 0 }) {
			t.Errorf("cells of %d: Pass goes on with %v", v, l)
		}
	}
}
