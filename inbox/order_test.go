package inbox_test

import (
	"math/rand"
	"slices"
	"testing"

	"knell/inbox"
	"knell/step"
)

// The kinds of what an errand is made of: a Put of the ticket i, which is the
// worker's; a Drain, and an Each that frees all; a Put of a ticket that is taken
// from Free, if there is one; and a mark that the ticket i is dead, wherever it is.
// (freeing is what an op does that takes and puts what is free.)
const (
	laying = iota
	draining
	renewing
	killing
	freeing
)

type job struct{ kind, i int }

// mostOrders is more than any case of TestAllOrders has.
const mostOrders = 40000

func lays(i int) job  { return job{laying, i} }
func kills(i int) job { return job{killing, i} }

var (
	drains = job{kind: draining}
	renews = job{kind: renewing}
)

// An op is what a worker is at: a Put, a Drain, or something else, of which no
// more is asked than that it lets the box be.
type op struct {
	kind   int
	i      int   // the ticket that a Put lays
	laid   bool  // a Put has laid it
	helped []int // what a Put has taken out, and hasn't freed yet
	freed  int
	took   []int // what a Drain has taken out
	none   bool  // the box was without tickets while the op was under way
	alive  []int // tickets that were first, and not dead, while the op was under way
	most   int   // how many steps it has alone; 0, if nothing is said of it
	over   bool
}

// A worker does an errand.
type worker struct {
	task *step.Task
	now  *op
}

// A bench is a box that workers are let loose on, pick by pick.
type bench struct {
	t       *testing.T
	b       inbox.Box
	box     []int // its tickets, behind the last step
	free    []int // the free ones
	workers []*worker
	last    *op // what the last step was one of
	alone   int // how many steps that did since another op had one
}

func newBench(t *testing.T, x world, errands [][]job) *bench {
	t.Helper()
	b := &bench{t: t, b: boxOf(t, x)}
	for _, errand := range errands {
		w := &worker{}
		w.task = step.New(b.errand(w, errand))
		b.workers = append(b.workers, w)
	}
	b.see()
	return b
}

// errand is the code of what a worker is still to do.
func (b *bench) errand(w *worker, todo []job) step.Code {
	w.now = &op{kind: killing}
	if len(todo) == 0 {
		return nil
	}
	rest := func() step.Code { return b.errand(w, todo[1:]) }
	switch j := todo[0]; j.kind {
	case laying:
		return b.put(w, j.i, rest)
	case draining:
		return b.drain(w, rest)
	case renewing:
		return b.renew(w, rest)
	default:
		return step.Store(b.b.Cells, markCell(j.i), 1, rest)
	}
}

func (b *bench) put(w *worker, i int, then func() step.Code) step.Code {
	o := &op{kind: laying, i: i, most: mostPut}
	w.now = o
	return b.b.Put(i, func() step.Code {
		o.over = true
		return then()
	})
}

// drain frees what it took out, and writes anything into its links ahead of that.
func (b *bench) drain(w *worker, then func() step.Code) step.Code {
	o := &op{kind: draining, most: mostDrain}
	w.now = o
	return b.b.Drain(func(first int) step.Code {
		o.over = true
		var met []int
		w.now = &op{kind: freeing}
		return b.b.Each(first, func(i int, then func() step.Code) step.Code {
			met = append(met, i)
			return step.Store(b.b.Cells, linkCell(i), 77, func() step.Code { return b.b.Free.Push(i, then) })
		}, func() step.Code {
			if !slices.Equal(met, o.took) {
				b.t.Fatalf("Each goes through %v, the Drain took %v", met, o.took)
			}
			return then()
		})
	})
}

// renew takes a ticket that is free, so that it isn't dead any more, and lays it.
func (b *bench) renew(w *worker, then func() step.Code) step.Code {
	w.now = &op{kind: freeing}
	return b.b.Free.Pop(func(i int, ok bool) step.Code {
		if !ok {
			return then()
		}
		return step.Store(b.b.Cells, markCell(i), 0, func() step.Code { return b.put(w, i, then) })
	})
}

func (b *bench) dead(i int) bool { return b.b.Cells.All()[markCell(i)] == 1 }

// pick lets a worker do a step, and holds that against the promises.
func (b *bench) pick(k int) {
	b.t.Helper()
	w := b.workers[k]
	if w.task.Ended() {
		return
	}
	o, box, free, head, count := w.now, b.box, b.free, headOf(b.b), b.b.Cells.Count()
	if b.last != o {
		b.last, b.alone, o.freed = o, 0, 0
	}
	b.alone++
	w.task.Step()
	if n := b.b.Cells.Count() - count; n > 1 {
		b.t.Fatalf("a step has %d accesses", n)
	}
	if is := headOf(b.b); head != is && is.Count != (head.Count+1)%(1<<32) {
		b.t.Fatalf("the head %v is written as %v", head, is)
	}
	b.see()
	b.holdBox(o, box, b.box)
	b.holdFree(o, free, b.free)
	if o.over {
		b.holdEnd(o)
	} else if most := o.most + mostFreed*(o.freed+len(o.helped)); o.most > 0 && b.alone >= most {
		b.t.Fatalf("alone, it isn't through with %+v within %d steps", *o, most)
	}
}

// see looks at the box, and writes down for all that is under way how it is.
func (b *bench) see() {
	b.box, b.free = b.b.List(), b.b.Free.List()
	for _, w := range b.workers {
		if len(b.box) == 0 {
			w.now.none = true
		} else if i := b.box[0]; !slices.Contains(w.now.alive, i) && !b.dead(i) {
			w.now.alive = append(w.now.alive, i)
		}
	}
}

// holdBox holds what an op's step has made of the box's tickets: a Put takes
// dead ones off ahead, and lays its own onto one that it has seen alive; a Drain
// takes all.
func (b *bench) holdBox(o *op, was, is []int) {
	b.t.Helper()
	if slices.Equal(was, is) {
		return
	}
	if o.kind == draining && o.took == nil && len(is) == 0 {
		o.took = was
		return
	}
	rest := is
	if o.kind == laying && !o.laid && len(is) > 0 && is[0] == o.i {
		o.laid, rest = true, is[1:]
	}
	off := len(was) - len(rest)
	if o.kind != laying || off < 0 || !slices.Equal(was[off:], rest) {
		b.t.Fatalf("%+v makes of the tickets %v: %v", *o, was, is)
	}
	for _, i := range was[:off] {
		if !b.dead(i) {
			b.t.Fatalf("%+v takes %d out, which isn't dead", *o, i)
		}
		o.helped = append(o.helped, i)
	}
	if o.laid && len(rest) > 0 && !slices.Contains(o.alive, rest[0]) {
		b.t.Fatalf("%+v is laid onto %d, which was dead all the while", *o, rest[0])
	}
}

// holdFree holds what an op's step has made of the free tickets: a Put frees
// what it has taken out.
func (b *bench) holdFree(o *op, was, is []int) {
	b.t.Helper()
	if slices.Equal(was, is) || o.kind == freeing {
		return
	}
	if o.kind != laying || len(is) == 0 || !slices.Equal(was, is[1:]) || !slices.Contains(o.helped, is[0]) {
		b.t.Fatalf("%+v makes of the free tickets %v: %v", *o, was, is)
	}
	o.helped = slices.DeleteFunc(o.helped, func(i int) bool { return i == is[0] })
	o.freed++
}

// holdEnd holds an op that has ended: a Put has laid its ticket, and freed what
// it took out; a Drain took all, or there was none at some moment.
func (b *bench) holdEnd(o *op) {
	b.t.Helper()
	if o.kind == laying && (!o.laid || len(o.helped) > 0) {
		b.t.Fatalf("%+v has ended", *o)
	}
	if o.kind == draining && o.took == nil && !o.none {
		b.t.Fatalf("%+v has ended without a ticket, but there was one all the while", *o)
	}
}

func (b *bench) alive() []int {
	var l []int
	for k, w := range b.workers {
		if !w.task.Ended() {
			l = append(l, k)
		}
	}
	return l
}

// finish lets all workers come to their ends: each ticket lies just somewhere then.
func (b *bench) finish() {
	b.t.Helper()
	for k, w := range b.workers {
		for n := 0; !w.task.Ended(); n++ {
			if n > 1000 {
				b.t.Fatalf("worker %d doesn't end, at %+v", k, *w.now)
			}
			b.pick(k)
		}
	}
	l := slices.Concat(b.b.List(), b.b.Free.List())
	slices.Sort(l)
	if want := []int{0, 1, 2, 3, 4}; !slices.Equal(l, want) {
		b.t.Fatalf("in the box are %v, free %v", b.b.List(), b.b.Free.List())
	}
}

// explore goes through all orders of steps that begin with these picks, but
// through no more than are left: how many steps an op has is free (K9), and a few
// more of them would make orders that no test comes to the end of.
func explore(fresh func() *bench, picks []int, left *int) {
	if *left == 0 {
		return
	}
	*left--
	b := fresh()
	for _, k := range picks {
		b.pick(k)
	}
	for l := b.alive(); len(l) > 0; l = b.alive() {
		for _, k := range l[1:] {
			explore(fresh, append(slices.Clone(picks), k), left)
		}
		picks = append(picks, l[0])
		b.pick(l[0])
	}
	b.finish()
}

// others are the tickets that aren't in the box, nor any errand's to be laid.
func others(box []int, errands [][]job) []int {
	var l []int
	for i := range tickets {
		if !slices.Contains(box, i) && !slices.Contains(slices.Concat(errands...), lays(i)) {
			l = append(l, i)
		}
	}
	return l
}

// P9.1, P9.3: a few workers, in all orders of their steps, while the count comes
// round. (What a case doesn't name is free.)
func TestAllOrders(t *testing.T) {
	for _, x := range []struct {
		box, dead []int
		steps     int
		errands   [][]job
	}{
		{nil, nil, 0, [][]job{{lays(0)}, {lays(1)}, {drains}}},
		{[]int{2}, nil, 1, [][]job{{lays(0)}, {lays(1)}}},
		{[]int{2}, nil, 2, [][]job{{lays(0)}, {drains}}},
		{[]int{2}, nil, 0, [][]job{{lays(0)}, {drains}, {kills(2)}}},
		{[]int{2}, []int{2}, 0, [][]job{{lays(0)}, {lays(1)}}},
		{[]int{2}, []int{2}, 2, [][]job{{lays(0)}, {drains}}},
		{[]int{2, 3}, []int{2}, 0, [][]job{{lays(0)}, {lays(1)}}},
		{[]int{2, 3}, []int{3}, 1, [][]job{{lays(0)}, {kills(2), kills(0)}}},
		{[]int{2}, []int{2}, 0, [][]job{{lays(0)}, {lays(1), kills(1)}}},
		{[]int{2, 3}, nil, 0, [][]job{{lays(0)}, {lays(1)}, {kills(2)}}},
	} {
		first := world{mostHead - 1, x.box, others(x.box, x.errands), x.dead, x.steps}
		left := mostOrders
		explore(func() *bench { return newBench(t, first, x.errands) }, nil, &left)
	}
}

// randomErrands lays things out: some tickets in the box, some free, the others
// one each to be laid by some worker, beside what they do at random. Only the
// first worker drains.
func randomErrands(r *rand.Rand) (x world, errands [][]job) {
	x = world{count: r.Intn(2) * (mostHead - 2), steps: r.Intn(3)}
	errands = make([][]job, 2+r.Intn(4))
	for range 4 * len(errands) {
		k := r.Intn(len(errands))
		j := []job{renews, renews, kills(r.Intn(tickets)), drains}[r.Intn(4)]
		if j == drains {
			k = 0
		}
		errands[k] = append(errands[k], j)
	}
	for _, i := range r.Perm(tickets) {
		switch k := r.Intn(2 + len(errands)); k {
		case 0:
			x.box = append(x.box, i)
		case 1:
			x.free = append(x.free, i)
		default:
			at := r.Intn(len(errands[k-2]) + 1)
			errands[k-2] = slices.Insert(errands[k-2], at, lays(i))
		}
		if r.Intn(3) == 0 {
			x.dead = append(x.dead, i)
		}
	}
	return x, errands
}

// P9.1 to P9.3: many workers, picked at random; some stand still for long.
func TestManyWorkers(t *testing.T) {
	r := rand.New(rand.NewSource(9))
	for range 3000 {
		x, errands := randomErrands(r)
		b := newBench(t, x, errands)
		burst := 1 + r.Intn(12)
		for range r.Intn(80) {
			k := r.Intn(len(b.workers))
			for range 1 + r.Intn(burst) {
				b.pick(k)
			}
		}
		b.finish()
	}
}

// P9: workers that are picked in turn, and are in each other's way at each step,
// come to an end.
func TestPickedInTurn(t *testing.T) {
	for steps := range 3 {
		b := newBench(t, world{box: []int{3, 4}, free: []int{2}, dead: []int{3, 4}, steps: steps}, [][]job{
			{drains, drains, renews, drains, drains},
			{lays(0), renews, kills(0), renews, renews},
			{lays(1), renews, kills(1), renews, renews},
		})
		for n := 0; len(b.alive()) > 0; n++ {
			if n > 1000 {
				t.Fatal("workers that are picked in turn don't end")
			}
			b.pick(n % len(b.workers))
		}
		b.finish()
	}
}
