package stack_test

import (
	"math"
	"slices"
	"testing"

	"knell/api"
	"knell/cell"
	"knell/stack"
	"knell/step"
	"knell/word"
)

// The stacks of these tests have the things 0 to things-1; their cells lie
// behind the head in falling order, so that no thing is its cell, nor its link.
const (
	things    = 5
	headCell  = 2
	size      = 3 + things
	mostAlone = 6 // P8.3: so many steps a task has alone
	mostHead  = math.MaxUint32
)

func linkCell(i int) int { return size - 1 - i }

func nothing() step.Code { return nil }

// stackOf is a stack of these things, the first one first, whose head has that count.
func stackOf(t *testing.T, count int, l ...int) stack.Stack {
	t.Helper()
	cells := make([]uint64, size)
	first := -1
	for _, i := range slices.Backward(l) {
		cells[linkCell(i)] = uint64(first + 1)
		first = i
	}
	w, e := word.Head{Count: count, Index: first}.Word()
	if e != api.OK {
		t.Fatalf("a head of %d, %d answers the error %d", count, first, e)
	}
	cells[headCell] = w
	return stackIn(t, cells, headCell, linkCell)
}

func stackIn(t *testing.T, cells []uint64, head int, link func(i int) int) stack.Stack {
	t.Helper()
	a, e := cell.Of(cells)
	if e != api.OK {
		t.Fatalf("cell.Of(%v) answers the error %d", cells, e)
	}
	return stack.Stack{Cells: a, Head: head, Link: link}
}

func headOf(s stack.Stack) word.Head { return word.HeadOf(s.Cells.All()[s.Head]) }

// wantStack holds a stack against its things and its head's count.
func wantStack(t *testing.T, what string, s stack.Stack, count int, want ...int) {
	t.Helper()
	if got := s.List(); !slices.Equal(got, want) {
		t.Errorf("%s: List() = %v, want %v", what, got, want)
	}
	first := -1
	if len(want) > 0 {
		first = want[0]
	}
	if got := headOf(s); got != (word.Head{Count: count, Index: first}) {
		t.Errorf("%s: the head is %v, want {%d %d}", what, got, count, first)
	}
}

// got is what a Pop went on with; no Pop goes on with times other than 1.
type got struct {
	i     int
	ok    bool
	times int
}

func popInto(s stack.Stack, g *got) *step.Task {
	return step.New(s.Pop(func(i int, ok bool) step.Code {
		*g = got{i, ok, g.times + 1}
		return nil
	}))
}

// wantPop lets a Pop go alone.
func wantPop(t *testing.T, s stack.Stack, i int, ok bool) {
	t.Helper()
	var g got
	if x := popInto(s, &g); !x.Finish(mostAlone) {
		t.Fatalf("Pop isn't through within %d steps", mostAlone)
	}
	if g != (got{i, ok, 1}) {
		t.Errorf("Pop goes on with %d, %v, %d times; want %d, %v, once", g.i, g.ok, g.times, i, ok)
	}
}

// push lets a Push go alone.
func push(t *testing.T, s stack.Stack, i int) {
	t.Helper()
	times := 0
	x := step.New(s.Push(i, func() step.Code {
		times++
		return nil
	}))
	if times != 0 {
		t.Errorf("Push(%d) goes on ahead of its first step", i)
	}
	if !x.Finish(mostAlone) {
		t.Fatalf("Push(%d) isn't through within %d steps", i, mostAlone)
	}
	if times != 1 {
		t.Errorf("Push(%d) goes on %d times, want once", i, times)
	}
}

// P8.1: the chapter's example, and what the head's count is on the way; a Pop
// that finds none writes nothing.
func TestFirstOneFirst(t *testing.T) {
	s := stackOf(t, 0)
	wantStack(t, "new", s, 0)
	push(t, s, 1)
	wantStack(t, "Push(1)", s, 1, 1)
	push(t, s, 2)
	wantStack(t, "Push(2)", s, 2, 2, 1)
	wantPop(t, s, 2, true)
	wantStack(t, "Pop", s, 3, 1)
	wantPop(t, s, 1, true)
	wantStack(t, "Pop", s, 4)
	wantPop(t, s, -1, false)
	wantPop(t, s, -1, false)
	wantStack(t, "Pop of none", s, 4)
	push(t, s, 0)
	push(t, s, things-1)
	wantStack(t, "Push(0), Push of the last one", s, 6, things-1, 0)
}

// P8.1: the cells are what the chapter's section Words says.
func TestCells(t *testing.T) {
	s := stackIn(t, make([]uint64, 4), 3, func(i int) int { return i })
	for _, i := range []int{1, 0, 2} {
		push(t, s, i)
	}
	if got, want := s.Cells.All(), []uint64{2, 0, 1, 3<<32 | 3}; !slices.Equal(got, want) {
		t.Errorf("the cells are %v, want %v", got, want)
	}
	wantPop(t, s, 2, true)
	if got, want := s.Cells.All()[3], uint64(4<<32|1); got != want {
		t.Errorf("behind a Pop the head is %#x, want %#x", got, want)
	}
}

// P8.1: whatever the cells of free things had, and whatever the other cells have.
func TestOtherCellsStay(t *testing.T) {
	cells := []uint64{7, math.MaxUint64, 0, math.MaxUint64, 1 << 32, 9, 9, 9}
	s := stackIn(t, cells, headCell, linkCell)
	push(t, s, 3)
	push(t, s, 4)
	wantStack(t, "two pushed", s, 2, 4, 3)
	wantPop(t, s, 4, true)
	wantPop(t, s, 3, true)
	wantPop(t, s, -1, false)
	after := s.Cells.All()
	for i, v := range cells {
		if i != headCell && i != linkCell(3) && i != linkCell(4) && after[i] != v {
			t.Errorf("cell %d has %d, had %d", i, after[i], v)
		}
	}
}

// P8.1: it goes on with the rest that then answers, which is not begun within
// the same step; and a code may be done more than once.
func TestGoesOn(t *testing.T) {
	s := stackOf(t, 0)
	both := s.Push(2, func() step.Code {
		return s.Pop(func(i int, ok bool) step.Code {
			if i != 2 || !ok {
				t.Errorf("Pop goes on with %d, %v, want 2, true", i, ok)
			}
			return step.Store(s.Cells, 0, s.Cells.All()[0]+1, nothing)
		})
	})
	for n := 1; n <= 2; n++ {
		x := step.New(both)
		if x.Finish(3) || !x.Finish(20) {
			t.Errorf("Push, Pop and Store end behind %d steps", x.Steps())
		}
		wantStack(t, "Push and Pop", s, 2*n)
		if got := s.Cells.All()[0]; got != uint64(n) {
			t.Errorf("the Store behind them was done %d times, want %d", got, n)
		}
	}
}

// P8.1: List has no access, and changes nothing; what it answers is new memory (K5).
func TestList(t *testing.T) {
	s := stackOf(t, 9, 3, 0, 4)
	before := s.Cells.All()
	l := s.List()
	l[0], l[2] = 77, 78
	wantStack(t, "List written", s, 9, 3, 0, 4)
	if got := s.Cells.Count(); got != 0 {
		t.Errorf("List has %d accesses, want none", got)
	}
	if got := s.Cells.All(); !slices.Equal(got, before) {
		t.Errorf("List makes the cells %v of %v", got, before)
	}
	all := []int{4, 2, 0, 1, 3}
	wantStack(t, "all things", stackOf(t, 0, all...), 0, all...)
}

// P8.1, Words: the count is 0 behind 2^32 - 1, and what stands still as it
// comes round is told by it as ever.
func TestCountComesRound(t *testing.T) {
	s := stackOf(t, mostHead, 1)
	push(t, s, 2)
	wantStack(t, "Push", s, 0, 2, 1)

	s = stackOf(t, mostHead, 2, 1)
	wantPop(t, s, 2, true)
	wantStack(t, "Pop", s, 0, 1)

	s = stackOf(t, mostHead-1, 2, 1)
	var g got
	slow := popInto(s, &g)
	slow.Step()
	wantPop(t, s, 2, true)
	wantPop(t, s, 1, true)
	push(t, s, 2)
	wantStack(t, "three writes", s, 1, 2)
	if !slow.Finish(mostAlone) || g != (got{2, true, 1}) {
		t.Errorf("the slow Pop goes on with %v", g)
	}
	wantStack(t, "the slow Pop", s, 2)
}

// P8.2: a Pop that stands still, at each of its steps, while the first thing is
// taken, the next one too, and the first one is put back: the next one isn't
// brought back by it.
func TestSlowPop(t *testing.T) {
	for stands := range 3 {
		s := stackOf(t, 0, 4, 3, 1)
		var g got
		slow := popInto(s, &g)
		slow.Finish(stands)
		wantPop(t, s, 4, true)
		wantPop(t, s, 3, true)
		push(t, s, 4)
		if slow.Ended() || !slow.Finish(mostAlone) {
			t.Errorf("standing %d: the Pop isn't through", stands)
		}
		if g != (got{4, true, 1}) {
			t.Errorf("standing %d: the Pop goes on with %v", stands, g)
		}
		wantStack(t, "a slow Pop", s, 4, 1)
	}
}

// P8.2: a Push that stands still, at each of its steps, while the first thing
// is taken and put back with another one behind it.
func TestSlowPush(t *testing.T) {
	for stands := range 3 {
		s := stackOf(t, 0, 4, 3, 1)
		slow := step.New(s.Push(0, nothing))
		slow.Finish(stands)
		wantPop(t, s, 4, true)
		push(t, s, 2)
		push(t, s, 4)
		if slow.Ended() || !slow.Finish(mostAlone) {
			t.Errorf("standing %d: the Push isn't through", stands)
		}
		wantStack(t, "a slow Push", s, 4, 0, 4, 2, 3, 1)
	}
}

// P8.2: who took a thing writes anything into its cell while a Pop stands still
// that has read the head; it then comes to nothing of it.
func TestCellOfATakenThing(t *testing.T) {
	for _, v := range []uint64{0, 1, 5, things + 1, mostHead, 1 << 32, 1<<32 + 1, 1 << 63, math.MaxUint64} {
		s := stackOf(t, 3, 4, 3)
		var g got
		slow := popInto(s, &g)
		slow.Step()
		wantPop(t, s, 4, true)
		s.Cells.Store(linkCell(4), v)
		if !slow.Finish(mostAlone) || g != (got{3, true, 1}) {
			t.Errorf("with %d in the cell the Pop goes on with %v, want 3", v, g)
		}
		wantStack(t, "a Pop behind another one", s, 5)
	}
}

// P8.1, P8.3: what can't be one of the stack's things isn't put: neither what
// is below 0, nor what no head can name, nor what has no cell. The Push goes on.
func TestNoThing(t *testing.T) {
	for _, i := range []int{math.MinInt, -1 << 32, -2, -1, size, size + 1, 1<<32 - 2, 1<<32 - 1, 1 << 32, 1<<32 + 1, math.MaxInt} {
		s := stackOf(t, 8, 2, 0)
		before := s.Cells.All()
		push(t, s, i)
		if got := s.Cells.All(); !slices.Equal(got, before) {
			t.Errorf("Push(%d) makes the cells %v of %v", i, got, before)
		}
	}
	s := stackIn(t, []uint64{3<<32 | 8, 0}, 0, func(i int) int { return 1 })
	for _, i := range []int{math.MinInt, -1, 1<<32 - 1, math.MaxInt} {
		push(t, s, i)
		wantStack(t, "a Push of what no head can name", s, 3, 7)
	}
}

// P8.1: the greatest thing that a head can name, first and behind another one.
func TestGreatestThing(t *testing.T) {
	const greatest = 1<<32 - 2
	s := stackIn(t, make([]uint64, 3), 0, func(i int) int { return 1 + i%2 })
	push(t, s, greatest)
	wantStack(t, "a Push of the greatest thing", s, 1, greatest)
	push(t, s, 5)
	wantStack(t, "a Push of another one", s, 2, 5, greatest)
	wantPop(t, s, 5, true)
	wantPop(t, s, greatest, true)
	wantPop(t, s, -1, false)
}

// P8.1, P8.3: a stack whose head is no cell has nothing, and stays so.
func TestNoHead(t *testing.T) {
	for _, head := range []int{math.MinInt, -1, size, math.MaxInt} {
		s := stackIn(t, make([]uint64, size), head, linkCell)
		push(t, s, 1)
		wantPop(t, s, -1, false)
		if l, all := s.List(), s.Cells.All(); len(l) != 0 || !slices.Equal(all, make([]uint64, size)) {
			t.Errorf("with the head %d: List() = %v, the cells are %v", head, l, all)
		}
	}
}

// P1: cells that are no stack's: rings, links that tell no thing, things
// without a cell. Every call ends.
func TestBrokenLinks(t *testing.T) {
	for _, x := range []struct {
		cells []uint64
		pops  int
	}{
		{[]uint64{1, 1}, 0},
		{[]uint64{1, 2, 1}, 0},
		{[]uint64{9}, 9},
		{[]uint64{1, 1 << 32}, 0},
		{[]uint64{1, math.MaxUint64}, 0},
		{[]uint64{mostHead}, mostHead - 1},
		{[]uint64{math.MaxUint64}, mostHead - 1},
	} {
		s := stackIn(t, x.cells, 0, func(i int) int { return i + 1 })
		if l := s.List(); len(l) == 0 || len(l) > len(x.cells) {
			t.Errorf("%v: List() = %v", x.cells, l)
		}
		var g got
		if !popInto(s, &g).Finish(mostAlone) || !g.ok || g.times != 1 {
			t.Errorf("%v: the Pop goes on with %v", x.cells, g)
		}
		if got, want := headOf(s).Count, int(uint32(x.cells[0]>>32)+1)%(1<<32); got != want {
			t.Errorf("%v: the count is %d, want %d", x.cells, got, want)
		}
	}
}
