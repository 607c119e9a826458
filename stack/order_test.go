package stack_test

import (
	"fmt"
	"math/rand"
	"slices"
	"testing"

	"knell/stack"
	"knell/step"
)

// An op is one Pop or Push: what it took or put, and which pick was its first
// step's, which its last one's; 0, as long as there was none.
type op struct {
	pop         bool
	i           int
	ok          bool
	begun, over int
}

// A worker does an errand, and holds what it took and hasn't put back.
type worker struct {
	task *step.Task
	ops  []*op
	held []int
}

// A bench is a stack that workers are let loose on, pick by pick.
type bench struct {
	t       *testing.T
	s       stack.Stack
	first   []int // the things at first
	workers []*worker
	picks   int
	now     *op // what the last step was one of
	alone   int // how many steps it did since another op had one
}

// What an errand is made of: a number from 0 on is a Push of that thing, take a
// Pop, and back a Push of what the worker holds for the longest time, if anything.
const (
	take = -1
	back = -2
)

func newBench(t *testing.T, count int, first []int, errands [][]int) *bench {
	t.Helper()
	b := &bench{t: t, s: stackOf(t, count, first...), first: first}
	for _, errand := range errands {
		w := &worker{}
		w.task = step.New(b.errand(w, errand))
		b.workers = append(b.workers, w)
	}
	return b
}

// errand is the code of what a worker is still to do.
func (b *bench) errand(w *worker, todo []int) step.Code {
	if len(todo) == 0 {
		return nil
	}
	i, todo := todo[0], todo[1:]
	if i == take {
		return b.pop(w, todo)
	}
	if i == back {
		if len(w.held) == 0 {
			return b.errand(w, todo)
		}
		i, w.held = w.held[0], w.held[1:]
	}
	o := &op{i: i}
	w.ops = append(w.ops, o)
	return b.s.Push(i, func() step.Code {
		o.over = b.picks
		return b.errand(w, todo)
	})
}

func (b *bench) pop(w *worker, todo []int) step.Code {
	o := &op{pop: true}
	w.ops = append(w.ops, o)
	return b.s.Pop(func(i int, ok bool) step.Code {
		o.i, o.ok, o.over = i, ok, b.picks
		if ok {
			w.held = append(w.held, i)
		}
		return b.errand(w, todo)
	})
}

// pick lets a worker do a step, and holds that against P8.2: one cell at most is
// touched; against Words: if it is the head, its count is one more; and against
// P8.3: an op that alone is picked is through.
func (b *bench) pick(k int) {
	b.t.Helper()
	w := b.workers[k]
	if w.task.Ended() {
		return
	}
	b.begin(w.ops[len(w.ops)-1])
	was, count := headOf(b.s), b.s.Cells.Count()
	w.task.Step()
	if n := b.s.Cells.Count() - count; n > 1 {
		b.t.Fatalf("a step has %d accesses", n)
	}
	if is := headOf(b.s); was != is && is.Count != (was.Count+1)%(1<<32) {
		b.t.Fatalf("the head %v is written as %v", was, is)
	}
	if b.now.over == 0 && b.alone >= mostAlone {
		b.t.Fatalf("alone, it isn't through with %+v within %d steps", *b.now, mostAlone)
	}
}

// begin writes down that the next step is one of that op.
func (b *bench) begin(o *op) {
	b.picks++
	if o.begun == 0 {
		o.begun = b.picks
	}
	if b.now != o {
		b.now, b.alone = o, 0
	}
	b.alone++
}

func (b *bench) alive() []int {
	var l []int
	for k, w := range b.workers {
		if !w.task.Ended() {
			l = append(l, k)
		}
	}
	return l
}

// finish lets all workers come to their ends, and holds what came about against P8.2.
func (b *bench) finish() {
	b.t.Helper()
	var ops []*op
	for k, w := range b.workers {
		for !w.task.Ended() {
			b.pick(k)
		}
		ops = append(ops, w.ops...)
	}
	o := order{ops: ops, last: b.s.List(), seen: map[string]bool{}}
	if !o.can(0, b.first) {
		for _, x := range ops {
			b.t.Logf("%+v", *x)
		}
		b.t.Fatalf("from %v to %v: there is no order of these", b.first, o.last)
	}
}

// An order is sought, in which ops take effect at once, each within its steps,
// and that leaves the last things; seen is what led to nothing.
type order struct {
	ops  []*op
	last []int
	seen map[string]bool
}

// can tells whether the ops that aren't done can be, from these things on.
func (o order) can(done uint64, l []int) bool {
	if done == 1<<len(o.ops)-1 {
		return slices.Equal(l, o.last)
	}
	key := fmt.Sprint(done, l)
	if o.seen[key] {
		return false
	}
	o.seen[key] = true
	for k, x := range o.ops {
		if done>>k&1 == 1 || o.tooEarly(done, x) {
			continue
		}
		if rest, ok := x.effect(l); ok && o.can(done|1<<k, rest) {
			return true
		}
	}
	return false
}

// tooEarly tells whether an op that isn't done was over ahead of x's first step.
func (o order) tooEarly(done uint64, x *op) bool {
	for k, y := range o.ops {
		if done>>k&1 == 0 && y.over < x.begun {
			return true
		}
	}
	return false
}

// effect gives the things behind an op, and whether it can be.
func (x *op) effect(l []int) ([]int, bool) {
	if !x.pop {
		return append([]int{x.i}, l...), !slices.Contains(l, x.i)
	}
	if !x.ok {
		return l, len(l) == 0 && x.i == -1
	}
	if len(l) == 0 || l[0] != x.i {
		return nil, false
	}
	return l[1:], true
}

// explore goes through all orders of steps that begin with these picks.
func explore(fresh func() *bench, picks []int) {
	b := fresh()
	for _, k := range picks {
		b.pick(k)
	}
	for l := b.alive(); len(l) > 0; l = b.alive() {
		for _, k := range l[1:] {
			explore(fresh, append(slices.Clone(picks), k))
		}
		picks = append(picks, l[0])
		b.pick(l[0])
	}
	b.finish()
}

// P8.2, P8.3: a few workers, in all orders of their steps, while the count comes round.
func TestAllOrders(t *testing.T) {
	for _, x := range []struct {
		first   []int
		errands [][]int
	}{
		{nil, [][]int{{take}, {0}, {take}}},
		{nil, [][]int{{0}, {1}, {take}}},
		{[]int{2}, [][]int{{take}, {take}, {0}}},
		{[]int{2}, [][]int{{take, back}, {take, back}}},
		{[]int{2, 1}, [][]int{{take}, {take}, {take}}},
		{[]int{2, 1, 0}, [][]int{{take}, {take, take, back}}},
		{[]int{2, 1, 0}, [][]int{{3}, {take, take, back}}},
		{[]int{2, 1, 0}, [][]int{{take, take}, {take, take}}},
	} {
		explore(func() *bench { return newBench(t, mostHead-1, x.first, x.errands) }, nil)
	}
}

// randomErrands lays things out: some on the stack, the others one each to be
// put by some worker, who take and put back at random beside that.
func randomErrands(r *rand.Rand) (first []int, errands [][]int) {
	errands = make([][]int, 1+r.Intn(5))
	for range 4 * len(errands) {
		k := r.Intn(len(errands))
		errands[k] = append(errands[k], take+(back-take)*r.Intn(2))
	}
	for _, i := range r.Perm(things) {
		if r.Intn(2) == 0 {
			first = append(first, i)
			continue
		}
		k := r.Intn(len(errands))
		errands[k] = slices.Insert(errands[k], r.Intn(len(errands[k])+1), i)
	}
	return first, errands
}

// P8.2, P8.3: many workers, picked at random; some stand still for long.
func TestManyWorkers(t *testing.T) {
	r := rand.New(rand.NewSource(8))
	for range 3000 {
		first, errands := randomErrands(r)
		b := newBench(t, r.Intn(2)*mostHead, first, errands)
		burst := 1 + r.Intn(8)
		for range r.Intn(80) {
			k := r.Intn(len(b.workers))
			for range 1 + r.Intn(burst) {
				b.pick(k)
			}
		}
		b.finish()
	}
}

// P9: workers that are picked in turn, and are in each other's way at each step,
// come to an end; the head is written once for each Pop and each Push.
func TestPickedInTurn(t *testing.T) {
	b := newBench(t, 0, []int{0, 1, 2}, [][]int{
		{take, back, take, back, take, back},
		{take, back, take, back, take, back},
		{take, back, take, back, take, back},
	})
	for n := 0; len(b.alive()) > 0; n++ {
		if n > 1000 {
			t.Fatal("workers that are picked in turn don't end")
		}
		b.pick(n % len(b.workers))
	}
	b.finish()
	if got, want := headOf(b.s).Count, 18; got != want {
		t.Errorf("behind %d writes the head's count is %d", want, got)
	}
}

// P8.2: the same picks make the same things, whichever stack value is asked: it
// keeps nothing but its cells (K6).
func TestStackKeepsNothing(t *testing.T) {
	s := stackOf(t, 0)
	other := stack.Stack{Cells: s.Cells, Head: s.Head, Link: s.Link}
	push(t, s, 1)
	push(t, other, 2)
	wantStack(t, "two values", s, 2, 2, 1)
	wantPop(t, s, 2, true)
	wantPop(t, other, 1, true)
	wantPop(t, s, -1, false)
}
