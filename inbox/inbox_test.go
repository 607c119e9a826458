package inbox_test

import (
	"math"
	"slices"
	"testing"

	"knell/api"
	"knell/cell"
	"knell/inbox"
	"knell/stack"
	"knell/step"
	"knell/word"
)

// The boxes of these tests have the tickets 0 to tickets-1. A ticket's link is
// that of the stack of free tickets, too; its mark is 1, if it is dead.
const (
	tickets  = 5
	headCell = 2
	freeCell = 4
	size     = 5 + 2*tickets
	mostHead = math.MaxUint32

	mostPut   = 20 // P9.3: so many steps a Put has alone
	mostFreed = 12 // and so many for each ticket that it frees
	mostDrain = 10 // and so many a Drain
)

func linkCell(t int) int { return 5 + tickets - 1 - t }

func markCell(t int) int { return 5 + tickets + t }

func nothing() step.Code { return nil }

// deadIn is a box's Dead that has so many steps, the last one of which finds
// out; without a step it is found out in the step that calls it.
func deadIn(a *cell.Arena, steps int) func(t int, then func(dead bool) step.Code) step.Code {
	var dead func(t, left int, then func(dead bool) step.Code) step.Code
	dead = func(t, left int, then func(dead bool) step.Code) step.Code {
		if left == 0 {
			i := markCell(t)
			return then(i < size && a.All()[i] == 1)
		}
		return step.Load(a, markCell(t), func(v uint64) step.Code {
			if left == 1 {
				return then(v == 1)
			}
			return dead(t, left-1, then)
		})
	}
	return func(t int, then func(dead bool) step.Code) step.Code { return dead(t, steps, then) }
}

// A world is what lies in the cells at first; the lists have the first ticket first.
type world struct {
	count           int // of the box's head
	box, free, dead []int
	steps           int // of Dead
}

// lay writes links of a list into cells, and gives the word of its head.
func lay(t *testing.T, cells []uint64, count int, l []int) uint64 {
	t.Helper()
	first := -1
	for _, i := range slices.Backward(l) {
		cells[linkCell(i)] = uint64(first + 1)
		first = i
	}
	w, e := word.Head{Count: count, Index: first}.Word()
	if e != api.OK {
		t.Fatalf("a head of %d, %d answers the error %d", count, first, e)
	}
	return w
}

func boxOf(t *testing.T, x world) inbox.Box {
	t.Helper()
	cells := make([]uint64, size)
	cells[headCell] = lay(t, cells, x.count, x.box)
	cells[freeCell] = lay(t, cells, 0, x.free)
	for _, i := range x.dead {
		cells[markCell(i)] = 1
	}
	b := boxIn(t, cells, headCell, linkCell)
	b.Dead = deadIn(b.Cells, x.steps)
	return b
}

// boxIn is a box in any cells, none of whose tickets is dead.
func boxIn(t *testing.T, cells []uint64, head int, link func(t int) int) inbox.Box {
	t.Helper()
	a, e := cell.Of(cells)
	if e != api.OK {
		t.Fatalf("cell.Of(%v) answers the error %d", cells, e)
	}
	return inbox.Box{
		Cells: a, Head: head, Link: link,
		Free: stack.Stack{Cells: a, Head: freeCell, Link: link},
		Dead: func(t int, then func(dead bool) step.Code) step.Code { return then(false) },
	}
}

func headOf(b inbox.Box) word.Head { return word.HeadOf(b.Cells.All()[b.Head]) }

func mark(b inbox.Box, l ...int) {
	for _, i := range l {
		b.Cells.Store(markCell(i), 1)
	}
}

// wantBox holds a box against its tickets and its head's count.
func wantBox(t *testing.T, what string, b inbox.Box, count int, want ...int) {
	t.Helper()
	if got := b.List(); !slices.Equal(got, want) {
		t.Errorf("%s: List() = %v, want %v", what, got, want)
	}
	first := -1
	if len(want) > 0 {
		first = want[0]
	}
	if got := headOf(b); got != (word.Head{Count: count, Index: first}) {
		t.Errorf("%s: the head is %v, want {%d %d}", what, got, count, first)
	}
}

func wantFree(t *testing.T, what string, b inbox.Box, want ...int) {
	t.Helper()
	if got := b.Free.List(); !slices.Equal(got, want) {
		t.Errorf("%s: Free.List() = %v, want %v", what, got, want)
	}
}

// put lets a Put go alone, and gives how many steps it had.
func put(t *testing.T, b inbox.Box, i int) int {
	t.Helper()
	times, free := 0, len(b.Free.List())
	x := step.New(b.Put(i, func() step.Code {
		times++
		return nil
	}))
	if times != 0 {
		t.Errorf("Put(%d) goes on ahead of its first step", i)
	}
	x.Finish(mostPut + mostFreed*tickets)
	most := mostPut + mostFreed*(len(b.Free.List())-free)
	if !x.Ended() || x.Steps() > most {
		t.Fatalf("Put(%d) has %d steps, want %d at most", i, x.Steps(), most)
	}
	if times != 1 {
		t.Errorf("Put(%d) goes on %d times, want once", i, times)
	}
	return x.Steps()
}

// A first is what a Drain went on with, and how often.
type first struct{ t, times int }

func drainInto(b inbox.Box, f *first) *step.Task {
	return step.New(b.Drain(func(t int) step.Code {
		*f = first{t, f.times + 1}
		return nil
	}))
}

// wantDrain lets a Drain go alone.
func wantDrain(t *testing.T, b inbox.Box, want int) {
	t.Helper()
	var f first
	x := drainInto(b, &f)
	if f.times != 0 {
		t.Error("Drain goes on ahead of its first step")
	}
	if !x.Finish(mostDrain) {
		t.Fatalf("Drain isn't through within %d steps", mostDrain)
	}
	if f != (first{want, 1}) {
		t.Errorf("Drain goes on with %d, %d times, want %d, once", f.t, f.times, want)
	}
}

// gone is what Each goes through from a ticket on, with a do without steps.
func gone(t *testing.T, b inbox.Box, from int) []int {
	t.Helper()
	var l []int
	ended := 0
	x := step.New(b.Each(from, func(i int, then func() step.Code) step.Code {
		l = append(l, i)
		return then()
	}, func() step.Code {
		ended++
		return nil
	}))
	if !x.Finish(size) || ended != 1 {
		t.Errorf("Each from %d on goes on %d times behind the last one", from, ended)
	}
	if x.Steps() != len(l) {
		t.Errorf("Each of %v has %d steps", l, x.Steps())
	}
	return l
}

// The chapter's example, and a second round of it.
func TestExample(t *testing.T) {
	b := boxOf(t, world{})
	for n := range 2 {
		put(t, b, 1)
		put(t, b, 2)
		wantBox(t, "two Puts", b, 3*n+2, 2, 1)
		wantDrain(t, b, 2)
		if got, want := gone(t, b, 2), []int{2, 1}; !slices.Equal(got, want) {
			t.Errorf("Each goes through %v, want %v", got, want)
		}
		wantBox(t, "Drain", b, 3*n+3)
	}
}

// P9.1, Words: what stands in the cells, step by step through a box's life.
func TestCells(t *testing.T) {
	b := boxIn(t, make([]uint64, 6), 3, func(t int) int { return t })
	for _, i := range []int{1, 0, 2} {
		put(t, b, i)
	}
	if got, want := b.Cells.All(), []uint64{2, 0, 1, 3<<32 | 3, 0, 0}; !slices.Equal(got, want) {
		t.Errorf("the cells are %v, want %v", got, want)
	}
	wantDrain(t, b, 2)
	if got, want := b.Cells.All(), []uint64{2, 0, 1, 4 << 32, 0, 0}; !slices.Equal(got, want) {
		t.Errorf("behind a Drain the cells are %v, want %v", got, want)
	}
}

// P9.1: whatever the links of tickets had that lie nowhere, and whatever the
// other cells have.
func TestOtherCellsStay(t *testing.T) {
	cells := slices.Repeat([]uint64{math.MaxUint64}, size)
	cells[headCell], cells[freeCell] = 7<<32, 9<<32
	b := boxIn(t, cells, headCell, linkCell)
	put(t, b, 3)
	put(t, b, 0)
	wantBox(t, "two Puts", b, 9, 0, 3)
	for i, v := range b.Cells.All() {
		if i != headCell && i != linkCell(3) && i != linkCell(0) && v != cells[i] {
			t.Errorf("cell %d has %d, had %d", i, v, cells[i])
		}
	}
}

// P9.1: of a box without tickets -1, and nothing is written.
func TestDrainOfNone(t *testing.T) {
	for _, count := range []int{0, 6, mostHead} {
		b := boxOf(t, world{count: count, free: []int{3, 1}})
		before := b.Cells.All()
		for range 3 {
			wantDrain(t, b, -1)
		}
		if got := b.Cells.All(); !slices.Equal(got, before) {
			t.Errorf("a Drain of none makes the cells %v of %v", got, before)
		}
	}
}

// P9.1: a Drain takes out all, dead or not, frees none, and tells the first one.
func TestDrain(t *testing.T) {
	for _, l := range [][]int{{0}, {4}, {3, 0}, {0, 1, 2, 3}, {4, 2, 0, 1, 3}} {
		for _, dead := range [][]int{nil, l[:1], l} {
			b := boxOf(t, world{count: 5, box: l, dead: dead, steps: 2})
			wantBox(t, "at first", b, 5, l...)
			wantDrain(t, b, l[0])
			wantBox(t, "Drain", b, 6)
			wantFree(t, "Drain", b)
			if got := gone(t, b, l[0]); !slices.Equal(got, l) {
				t.Errorf("Each goes through %v, want %v", got, l)
			}
		}
	}
}

// P9.1: the first ticket is taken out and freed, as long as it is dead, and no
// other one; then the ticket is laid.
func TestHelping(t *testing.T) {
	for _, x := range []struct{ box, dead, rest, free []int }{
		{nil, nil, nil, nil},
		{nil, []int{0, 1, 2, 3}, nil, nil},
		{[]int{1}, nil, []int{1}, nil},
		{[]int{1}, []int{1}, nil, []int{1}},
		{[]int{1, 2}, []int{1}, []int{2}, []int{1}},
		{[]int{1, 2}, []int{2}, []int{1, 2}, nil},
		{[]int{1, 2}, []int{1, 2}, nil, []int{2, 1}},
		{[]int{3, 0, 1, 2}, []int{3, 0, 2}, []int{1, 2}, []int{0, 3}},
		{[]int{3, 0, 1, 2}, []int{0, 1, 2}, []int{3, 0, 1, 2}, nil},
		{[]int{0, 3, 1, 2}, []int{0, 1, 2, 3}, nil, []int{2, 1, 3, 0}},
	} {
		for steps := range 3 {
			b := boxOf(t, world{count: 8, box: x.box, dead: x.dead, steps: steps})
			put(t, b, 4)
			wantBox(t, "Put", b, 9+len(x.free), append([]int{4}, x.rest...)...)
			wantFree(t, "Put", b, x.free...)
		}
	}
}

// P9.1: what was free already stays, behind what is freed; whether the ticket
// that is laid is dead is nobody's concern, till it is the first one of another Put.
func TestHelpingOntoFree(t *testing.T) {
	b := boxOf(t, world{box: []int{1}, free: []int{3, 0}, dead: []int{1, 4}, steps: 1})
	put(t, b, 4)
	wantBox(t, "a Put of a dead one", b, 2, 4)
	wantFree(t, "a Put of a dead one", b, 1, 3, 0)
	put(t, b, 2)
	wantBox(t, "a Put onto it", b, 4, 2)
	wantFree(t, "a Put onto it", b, 4, 1, 3, 0)
}

// P9.1: Free may lie in an arena of its own, with links of its own.
func TestFreeElsewhere(t *testing.T) {
	b := boxOf(t, world{box: []int{1, 3, 0}, dead: []int{1, 3}, steps: 2})
	a, _ := cell.New(1 + tickets)
	b.Free = stack.Stack{Cells: a, Head: tickets, Link: func(i int) int { return i }}
	put(t, b, 2)
	wantBox(t, "Put", b, 3, 2, 0)
	wantFree(t, "Put", b, 3, 1)
}

// P9.1, Words: the count is 0 behind 2^32 - 1, at each write of the head.
func TestCountComesRound(t *testing.T) {
	b := boxOf(t, world{count: mostHead, box: []int{1}})
	put(t, b, 2)
	wantBox(t, "Put", b, 0, 2, 1)
	b = boxOf(t, world{count: mostHead, box: []int{1}})
	wantDrain(t, b, 1)
	wantBox(t, "Drain", b, 0)
	b = boxOf(t, world{count: mostHead, box: []int{1, 3}, dead: []int{1}})
	put(t, b, 2)
	wantBox(t, "Put that frees one", b, 1, 2, 3)
}

// P9.1: they go on with the rest that then answers, which is not begun within
// the same step; and a code may be done more than once.
func TestGoesOn(t *testing.T) {
	b := boxOf(t, world{steps: 1})
	var l []int
	all := b.Put(2, func() step.Code {
		return b.Drain(func(first int) step.Code {
			return b.Each(first, func(i int, then func() step.Code) step.Code {
				l = append(l, i)
				return step.Idle(then)
			}, func() step.Code {
				return step.Store(b.Cells, 0, b.Cells.All()[0]+1, nothing)
			})
		})
	})
	for n := 1; n <= 2; n++ {
		l = nil
		if x := step.New(all); x.Finish(5) || !x.Finish(40) {
			t.Errorf("Put, Drain, Each and Store end behind %d steps", x.Steps())
		}
		wantBox(t, "Put and Drain", b, 2*n)
		if got := b.Cells.All()[0]; got != uint64(n) || !slices.Equal(l, []int{2}) {
			t.Errorf("behind %v the Store was done %d times, want %d", l, got, n)
		}
	}
}

// P9.1: List has no access, and changes nothing; what it answers is new memory (K5).
func TestList(t *testing.T) {
	b := boxOf(t, world{count: 9, box: []int{3, 0, 4}, free: []int{1}, dead: []int{3}})
	before := b.Cells.All()
	l := b.List()
	l[0], l[2] = 77, 78
	wantBox(t, "List written", b, 9, 3, 0, 4)
	if got := b.Cells.Count(); got != 0 {
		t.Errorf("List has %d accesses, want none", got)
	}
	if got := b.Cells.All(); !slices.Equal(got, before) {
		t.Errorf("List makes the cells %v of %v", got, before)
	}
	wantBox(t, "without tickets", boxOf(t, world{free: []int{1, 2}}), 0)
}

// P9.2, P9.3: do is done for each ticket, in order, one at a time; it may write
// the link; there is one step for each ticket beside those of do.
func TestEach(t *testing.T) {
	for _, from := range [][]int{{2}, {0, 4}, {1, 3, 0}, {4, 3, 2, 1, 0}} {
		for dos := range 4 {
			b := boxOf(t, world{box: from, dead: from[:1], steps: 2})
			var l []int
			ended := false
			x := step.New(b.Each(from[0], func(i int, then func() step.Code) step.Code {
				l = append(l, i)
				for range dos {
					rest := then
					then = func() step.Code { return step.Store(b.Cells, linkCell(i), 1<<40+3, rest) }
				}
				return then()
			}, func() step.Code {
				ended = true
				return nil
			}))
			if !x.Finish(50) || !ended || !slices.Equal(l, from) {
				t.Errorf("Each goes through %v, want %v", l, from)
			}
			if want := len(from) * (1 + dos); x.Steps() != want || b.Cells.Count() != want {
				t.Errorf("Each of %v has %d steps and %d accesses, want %d", from, x.Steps(), b.Cells.Count(), want)
			}
		}
	}
}

// P9.2: do may free the ticket, whose link is that of the free ones, too.
func TestEachFrees(t *testing.T) {
	b := boxOf(t, world{box: []int{1, 3, 0}, free: []int{4}})
	wantDrain(t, b, 1)
	if x := step.New(b.Each(1, b.Free.Push, nothing)); !x.Finish(3 * (1 + 6)) {
		t.Errorf("Each isn't through behind %d steps", x.Steps())
	}
	wantFree(t, "Each", b, 0, 3, 1, 4)
	wantBox(t, "Each", b, 1)
}

// P9.2: do may lay the ticket into the same box; it isn't gone through again.
func TestEachLaysAnew(t *testing.T) {
	b := boxOf(t, world{box: []int{1, 3, 0}, steps: 2})
	wantDrain(t, b, 1)
	var l []int
	x := step.New(b.Each(1, func(i int, then func() step.Code) step.Code {
		l = append(l, i)
		return b.Put(i, then)
	}, nothing))
	if !x.Finish(60) || !slices.Equal(l, []int{1, 3, 0}) {
		t.Errorf("Each goes through %v, want [1 3 0]", l)
	}
	wantBox(t, "Each", b, 4, 0, 3, 1)
}

// P9.2: the next one is read ahead of do, in a step; nothing is begun ahead of it.
func TestEachIsLate(t *testing.T) {
	b := boxOf(t, world{box: []int{1, 3}})
	wantDrain(t, b, 1)
	var l []int
	x := step.New(b.Each(1, func(i int, then func() step.Code) step.Code {
		l = append(l, i)
		return step.Idle(then)
	}, func() step.Code {
		l = append(l, -1)
		return nil
	}))
	for n, want := range [][]int{nil, {1}, {1}, {1, 3}, {1, 3, -1}} {
		if !slices.Equal(l, want) {
			t.Errorf("behind %d steps Each has gone through %v, want %v", n, l, want)
		}
		if n == 1 {
			b.Cells.Store(linkCell(1), 5) // too late: 3 was read already
		}
		x.Step()
	}
}

// P9.2, P9.3: from -1 on it goes on with then, without a step and without an
// access; and from what is below -1 on, which is no ticket.
func TestEachOfNone(t *testing.T) {
	for _, from := range []int{-1, -2, -1 << 32, math.MinInt} {
		b := boxOf(t, world{box: []int{1, 0}})
		if l := gone(t, b, from); len(l) != 0 {
			t.Errorf("Each from %d on goes through %v", from, l)
		}
		if got := b.Cells.Count(); got != 0 {
			t.Errorf("Each from %d on has %d accesses", from, got)
		}
		did := false
		x := step.New(b.Each(from, b.Put, func() step.Code {
			return step.Idle(func() step.Code {
				did = true
				return nil
			})
		}))
		if !x.Finish(1) || !did {
			t.Errorf("Each from %d on doesn't go on with then's rest", from)
		}
	}
}

// P9.3: a Put that stands still, at each of its steps, while the box is
// drained, and others are laid.
func TestSlowPut(t *testing.T) {
	for stands := range 5 {
		b := boxOf(t, world{box: []int{3, 1}, steps: 2})
		slow := step.New(b.Put(0, nothing))
		slow.Finish(stands)
		wantDrain(t, b, 3)
		put(t, b, 2)
		put(t, b, 3)
		if slow.Ended() || !slow.Finish(mostPut) {
			t.Errorf("standing %d: the Put isn't through", stands)
		}
		wantBox(t, "a slow Put", b, 4, 0, 3, 2)
	}
}

// P9.3: a Put that found the first one dead stands still, while that is taken
// out, and laid again, of something else; it isn't taken out by it then.
func TestSlowHelp(t *testing.T) {
	for stands := 1; stands <= 4; stands++ {
		b := boxOf(t, world{box: []int{3, 1}, dead: []int{3}, steps: 2})
		slow := step.New(b.Put(0, nothing))
		slow.Finish(stands)
		wantDrain(t, b, 3)
		b.Cells.Store(markCell(3), 0)
		put(t, b, 1)
		put(t, b, 3)
		if slow.Ended() || !slow.Finish(mostPut) {
			t.Errorf("standing %d: the Put isn't through", stands)
		}
		wantBox(t, "a slow Put", b, 4, 0, 3, 1)
		wantFree(t, "a slow Put", b)
	}
}

// P9.3: a Put that found the first one dead stands still, while another one
// frees it; it is freed once.
func TestHelpedByAnother(t *testing.T) {
	for stands := range 5 {
		b := boxOf(t, world{box: []int{3, 1}, dead: []int{3}, steps: 2})
		slow := step.New(b.Put(0, nothing))
		slow.Finish(stands)
		put(t, b, 2)
		if slow.Ended() || !slow.Finish(mostPut) {
			t.Errorf("standing %d: the Put isn't through", stands)
		}
		wantBox(t, "a slow Put", b, 3, 0, 2, 1)
		wantFree(t, "a slow Put", b, 3)
	}
}

// P9.1: a Put that found the first one alive stands still, while another one is
// laid and dies; as that is the first one then, it is taken out.
func TestDeadMeanwhile(t *testing.T) {
	for stands := range 5 {
		b := boxOf(t, world{box: []int{1}, steps: 2})
		slow := step.New(b.Put(0, nothing))
		slow.Finish(stands)
		put(t, b, 3)
		mark(b, 3)
		if slow.Ended() || !slow.Finish(mostPut+mostFreed) {
			t.Errorf("standing %d: the Put isn't through", stands)
		}
		wantBox(t, "a slow Put", b, 3, 0, 1)
		wantFree(t, "a slow Put", b, 3)
	}
}

// P9.3: a Drain that stands still behind its first step takes out what is laid
// then, too, and none twice, even if the same ticket is the first one again.
func TestSlowDrain(t *testing.T) {
	b := boxOf(t, world{box: []int{3, 1}, free: []int{2}})
	var f first
	slow := drainInto(b, &f)
	slow.Step()
	mark(b, 3)
	put(t, b, 4)                    // frees 3
	b.Free.Cells.Store(freeCell, 0) // whoever takes it there
	put(t, b, 3)
	wantBox(t, "Puts", b, 3, 3, 4, 1)
	if !slow.Finish(mostDrain) || f != (first{3, 1}) {
		t.Errorf("the slow Drain goes on with %v", f)
	}
	if got := gone(t, b, 3); !slices.Equal(got, []int{3, 4, 1}) {
		t.Errorf("Each goes through %v, want [3 4 1]", got)
	}
	wantBox(t, "the slow Drain", b, 4)
}

// P9.1: what is no ticket, below 0, or beyond what a head can name, or without a
// cell, isn't laid; the Put goes on, and no ticket is lost.
func TestNoTicket(t *testing.T) {
	for _, i := range []int{math.MinInt, -1 << 32, -2, -1, size, size + 1, 1<<32 - 2, 1<<32 - 1, 1 << 32, 1<<32 + 1, math.MaxInt} {
		b := boxOf(t, world{count: 8, box: []int{2, 0}, free: []int{1}})
		before := b.Cells.All()
		put(t, b, i)
		if got := b.Cells.All(); !slices.Equal(got, before) {
			t.Errorf("Put(%d) makes the cells %v of %v", i, got, before)
		}
	}
	b := boxIn(t, []uint64{3<<32 | 8, 0}, 0, func(t int) int { return 1 })
	for _, i := range []int{math.MinInt, -1, 1<<32 - 1, math.MaxInt} {
		put(t, b, i)
		wantBox(t, "a Put of what no head can name", b, 3, 7)
	}
}

// P9.1: the greatest ticket that a head can name, first and behind another one.
func TestGreatestTicket(t *testing.T) {
	const greatest = 1<<32 - 2
	b := boxIn(t, make([]uint64, 3), 0, func(t int) int { return 1 + t%2 })
	put(t, b, greatest)
	wantBox(t, "a Put of the greatest ticket", b, 1, greatest)
	put(t, b, 5)
	wantBox(t, "a Put of another one", b, 2, 5, greatest)
	wantDrain(t, b, 5)
	if got := gone(t, b, 5); !slices.Equal(got, []int{5, greatest}) {
		t.Errorf("Each goes through %v, want [5 %d]", got, greatest)
	}
}

// P9.1, P1: a box whose head is no cell has no tickets, and stays so.
func TestNoHead(t *testing.T) {
	for _, head := range []int{math.MinInt, -1, size, math.MaxInt} {
		b := boxIn(t, make([]uint64, size), head, linkCell)
		put(t, b, 1)
		wantDrain(t, b, -1)
		if l, all := b.List(), b.Cells.All(); len(l) != 0 || !slices.Equal(all, make([]uint64, size)) {
			t.Errorf("with the head %d: List() = %v, the cells are %v", head, l, all)
		}
	}
}

// P1: cells that are no box's: rings, links that tell no ticket, tickets
// without a cell. Every call ends, and none panics.
func TestBrokenLinks(t *testing.T) {
	for _, cells := range [][]uint64{
		{1, 1}, {1, 2, 1}, {9}, {1, 1 << 32}, {1, math.MaxUint64}, {mostHead}, {math.MaxUint64}, {1, mostHead},
	} {
		b := boxIn(t, cells, 0, func(t int) int { return t + 1 })
		if l := b.List(); len(l) == 0 || len(l) > len(cells) {
			t.Errorf("%v: List() = %v", cells, l)
		}
		from := headOf(b).Index
		each := step.New(b.Each(from, func(_ int, then func() step.Code) step.Code { return then() }, nothing))
		each.Finish(9)
		wantDrain(t, b, from)
		if got, want := headOf(b), (word.Head{Count: int(uint32(cells[0]>>32) + 1), Index: -1}); got != want {
			t.Errorf("%v: behind a Drain the head is %v, want %v", cells, got, want)
		}
	}
}
