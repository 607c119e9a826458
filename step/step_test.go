package step_test

import (
	"math"
	"math/rand"
	"slices"
	"testing"

	"knell/api"
	"knell/cell"
	"knell/step"
)

// most is the greatest number that a cell has.
const most = math.MaxUint64

func arenaOf(t *testing.T, l ...uint64) *cell.Arena {
	t.Helper()
	a, e := cell.Of(l)
	if e != api.OK {
		t.Fatalf("cell.Of(%v) answers the error %d", l, e)
	}
	return a
}

// wantCells holds an arena against its cells, and how many accesses there were.
func wantCells(t *testing.T, what string, a *cell.Arena, count int, want ...uint64) {
	t.Helper()
	if got := a.All(); !slices.Equal(got, want) {
		t.Errorf("%s: the cells are %v, want %v", what, got, want)
	}
	if got := a.Count(); got != count {
		t.Errorf("%s: %d accesses, want %d", what, got, count)
	}
}

// wantTask holds a task against what it must tell of itself.
func wantTask(t *testing.T, what string, x *step.Task, steps int, ended bool) {
	t.Helper()
	if x.Steps() != steps || x.Ended() != ended {
		t.Errorf("%s: Steps() = %d, Ended() = %v, want %d, %v", what, x.Steps(), x.Ended(), steps, ended)
	}
}

// idles is code of so many steps that touch nothing; each one adds 1 to did.
func idles(steps int, did *int) step.Code {
	if steps == 0 {
		return nil
	}
	return step.Idle(func() step.Code {
		*did++
		return idles(steps-1, did)
	})
}

// forever is code that has always a rest.
func forever(did *int) step.Code {
	return step.Idle(func() step.Code {
		*did++
		return forever(did)
	})
}

// more is code that adds 1 to a cell by a Load and a Store.
func more(a *cell.Arena, i int) step.Code {
	return step.Load(a, i, func(v uint64) step.Code {
		return step.Store(a, i, v+1, func() step.Code { return nil })
	})
}

// places are cells, and numbers close to them and far off, in an arena of three.
func places() []int {
	return []int{math.MinInt, -1 << 32, -2, -1, 0, 1, 2, 3, 4, 1 << 32, 1<<32 + 1, math.MaxInt}
}

// An access is one kind of code, and what must come of it in a plain list: the
// code with a then that tells what it was called with (a bool as 0 or 1), and
// the number that it must be called with.
type access struct {
	name string
	code func(a *cell.Arena, i int, then func(told uint64) step.Code) step.Code
	tell func(l []uint64, i int) uint64
	does int // how many accesses it makes of a cell that there is
}

func number(is bool) uint64 {
	if is {
		return 1
	}
	return 0
}

// accesses are all kinds of code that the chapter has, with these numbers.
func accesses(old, v uint64) []access {
	return []access{
		{"Load", func(a *cell.Arena, i int, then func(uint64) step.Code) step.Code {
			return step.Load(a, i, then)
		}, func(l []uint64, i int) uint64 { return l[i] }, 1},
		{"Store", func(a *cell.Arena, i int, then func(uint64) step.Code) step.Code {
			return step.Store(a, i, v, func() step.Code { return then(0) })
		}, func(l []uint64, i int) uint64 {
			l[i] = v
			return 0
		}, 1},
		{"Swap", func(a *cell.Arena, i int, then func(uint64) step.Code) step.Code {
			return step.Swap(a, i, v, then)
		}, func(l []uint64, i int) uint64 {
			had := l[i]
			l[i] = v
			return had
		}, 1},
		{"Cas", func(a *cell.Arena, i int, then func(uint64) step.Code) step.Code {
			return step.Cas(a, i, old, v, func(ok bool) step.Code { return then(number(ok)) })
		}, func(l []uint64, i int) uint64 {
			is := l[i] == old
			if is {
				l[i] = v
			}
			return number(is)
		}, 1},
		{"Idle", func(_ *cell.Arena, _ int, then func(uint64) step.Code) step.Code {
			return step.Idle(func() step.Code { return then(0) })
		}, func([]uint64, int) uint64 { return 0 }, 0},
	}
}

// holdAccess does the one step of an access by hand, and holds what comes of it
// against the plain list: nothing ahead of the step; in the step the access, then
// then, once; the rest is answered, and not begun.
func holdAccess(t *testing.T, x access, i int, first []uint64) {
	t.Helper()
	a, want := arenaOf(t, first...), slices.Clone(first)
	var told []uint64
	began := false
	rest := step.Code(func() step.Code {
		began = true
		return nil
	})
	count, tell := 0, uint64(0)
	c := x.code(a, i, func(v uint64) step.Code {
		told = append(told, v)
		wantCells(t, x.name+" within then", a, count, want...)
		return rest
	})
	if c == nil {
		t.Fatalf("%s of cell %d is nil", x.name, i)
	}
	wantCells(t, x.name+" ahead of its step", a, 0, first...)
	if len(told) != 0 {
		t.Errorf("%s of cell %d calls then ahead of its step", x.name, i)
	}
	if 0 <= i && i < len(first) {
		tell, count = x.tell(want, i), x.does
	}
	next := c()
	if !slices.Equal(told, []uint64{tell}) {
		t.Errorf("%s of cell %d of %v calls then with %v, want once with %d", x.name, i, first, told, tell)
	}
	wantCells(t, x.name, a, count, want...)
	if next == nil || began {
		t.Fatalf("%s of cell %d: the rest is nil: %v, it has begun: %v", x.name, i, next == nil, began)
	}
	if next() != nil || !began {
		t.Errorf("%s of cell %d answers another rest than then did", x.name, i)
	}
}

// P7.1: each access and Idle, of cells that there are and that there aren't.
func TestAccesses(t *testing.T) {
	few := []uint64{0, 1, 5, 1 << 32, 1 << 63, most}
	for _, old := range few {
		for _, v := range few {
			for _, x := range accesses(old, v) {
				for _, i := range places() {
					holdAccess(t, x, i, []uint64{5, 0, most})
				}
			}
		}
	}
}

// P7.1: what then answers is the rest, nil too, in which case nothing is left.
func TestAccessesWithoutRest(t *testing.T) {
	for _, x := range accesses(5, 7) {
		for _, i := range places() {
			a := arenaOf(t, 5, 0, most)
			if x.code(a, i, func(uint64) step.Code { return nil })() != nil {
				t.Errorf("%s of cell %d: something is left behind a then that answers nil", x.name, i)
			}
		}
	}
}

// P7.1: of a cell that there isn't a step does nothing, but then is called.
func TestNoSuchCell(t *testing.T) {
	for _, i := range []int{math.MinInt, -1, 2, math.MaxInt} {
		a, calls := arenaOf(t, 3, 4), 0
		x := step.New(step.Load(a, i, func(v uint64) step.Code {
			calls++
			return step.Store(a, i, 9, func() step.Code {
				calls++
				return step.Swap(a, i, 9, func(old uint64) step.Code {
					calls++
					return step.Cas(a, i, 0, 9, func(ok bool) step.Code {
						calls++
						if v != 0 || old != 0 || ok {
							t.Errorf("cell %d: Load %d, Swap %d, Cas %v", i, v, old, ok)
						}
						return nil
					})
				})
			})
		}))
		if !x.Finish(4) || calls != 4 {
			t.Errorf("cell %d: %d calls of then, want 4", i, calls)
		}
		wantTask(t, "no such cell", x, 4, true)
		wantCells(t, "no such cell", a, 0, 3, 4)
	}
}

// P7.1: each call of code does its step anew, of what the cell has then.
func TestCodeTwice(t *testing.T) {
	a := arenaOf(t, 0)
	var told []uint64
	c := step.Swap(a, 0, 7, func(old uint64) step.Code {
		told = append(told, old)
		return nil
	})
	c()
	a.Store(0, 3)
	c()
	if want := []uint64{0, 3}; !slices.Equal(told, want) {
		t.Errorf("a Swap's code, called twice, told %v, want %v", told, want)
	}
	wantCells(t, "a Swap's code, called twice", a, 3, 7)
}

// P7.1: the numbers are those at which the code was made, the cell that of the step.
func TestCodeIsLate(t *testing.T) {
	a := arenaOf(t, 1, 2)
	i, v := 0, uint64(8)
	c := step.Store(a, i, v, func() step.Code { return nil })
	i, v = 1, 9
	a.Store(0, 5)
	wantCells(t, "ahead of the step", a, 1, 5, 2)
	c()
	wantCells(t, "the step", a, 2, 8, 2)
	if i != 1 || v != 9 {
		t.Errorf("the step has changed what was handed in: %d, %d", i, v)
	}
}

// P7.2: New does nothing; each Step does one step, and tells whether it was the
// last one; behind that there is none.
func TestTask(t *testing.T) {
	for _, n := range []int{0, 1, 2, 3, 50} {
		did := 0
		x := step.New(idles(n, &did))
		wantTask(t, "New", x, 0, n == 0)
		for i := range n {
			if got := x.Step(); got != (i+1 == n) {
				t.Errorf("Step %d of %d answers %v", i+1, n, got)
			}
			wantTask(t, "Step", x, i+1, i+1 == n)
			if did != i+1 {
				t.Errorf("behind %d Steps of %d %d are done", i+1, n, did)
			}
		}
		for range 3 {
			if !x.Step() {
				t.Errorf("Step of a task of %d steps that has ended answers false", n)
			}
		}
		wantTask(t, "Step behind the end", x, n, true)
		if did != n {
			t.Errorf("%d steps of %d are done", did, n)
		}
	}
}

// P7.2: a task with the code nil has ended.
func TestTaskOfNothing(t *testing.T) {
	x := step.New(nil)
	wantTask(t, "New(nil)", x, 0, true)
	for _, m := range []int{math.MinInt, -1, 0, 1, 5, math.MaxInt} {
		if !x.Finish(m) || !x.Step() {
			t.Errorf("New(nil): Finish(%d) or Step answers false", m)
		}
	}
	if got := step.Run([]*step.Task{x}, []int{0, 0}); got != 0 {
		t.Errorf("Run of New(nil) = %d, want 0", got)
	}
	wantTask(t, "New(nil), stepped", x, 0, true)
}

// P7.2: within a step that step isn't done yet, and the task hasn't ended.
func TestTaskWithinItsStep(t *testing.T) {
	var x *step.Task
	x = step.New(step.Idle(func() step.Code {
		wantTask(t, "within the first step", x, 0, false)
		return step.Idle(func() step.Code {
			wantTask(t, "within the last step", x, 1, false)
			return nil
		})
	}))
	x.Finish(5)
	wantTask(t, "behind the last step", x, 2, true)
}

// P7.2: as many steps till it has ended, at most so many, none if that is below 1.
func TestFinish(t *testing.T) {
	for _, n := range []int{0, 1, 2, 3, 7} {
		for _, m := range []int{math.MinInt, -1 << 32, -3, -1, 0, 1, 2, 3, 6, 7, 8, 1 << 32, math.MaxInt} {
			did, want := 0, min(max(m, 0), n)
			x := step.New(idles(n, &did))
			if got := x.Finish(m); got != (want == n) {
				t.Errorf("Finish(%d) of %d steps = %v", m, n, got)
			}
			wantTask(t, "Finish", x, want, want == n)
			if did != want {
				t.Errorf("Finish(%d) of %d steps has done %d, want %d", m, n, did, want)
			}
		}
	}
}

// P7.2: Finish goes on where a task stands, by whatever it came there.
func TestFinishInTheMidst(t *testing.T) {
	did := 0
	x := step.New(idles(9, &did))
	x.Step()
	for i, f := range []struct {
		most, steps int
		ended       bool
	}{{0, 1, false}, {2, 3, false}, {-1, 3, false}, {1, 4, false}, {4, 8, false}, {1, 9, true}, {1, 9, true}, {0, 9, true}} {
		if got := x.Finish(f.most); got != f.ended {
			t.Errorf("Finish %d: Finish(%d) = %v, want %v", i, f.most, got, f.ended)
		}
		wantTask(t, "Finish in the midst", x, f.steps, f.ended)
	}
	if did != 9 {
		t.Errorf("%d steps are done, want 9", did)
	}
}

// P7.2: a task that never ends does just as many steps as it may.
func TestFinishOfWhatNeverEnds(t *testing.T) {
	did := 0
	x := step.New(forever(&did))
	if x.Finish(10000) || did != 10000 {
		t.Errorf("Finish(10000) has done %d", did)
	}
	wantTask(t, "what never ends", x, 10000, false)
}

// The chapter's example, and with other picks.
func TestExample(t *testing.T) {
	for _, x := range []struct {
		picks []int
		want  uint64
	}{{[]int{0, 1, 0, 1}, 1}, {[]int{0, 1, 1, 0}, 1}, {[]int{0, 0, 1, 1}, 2}, {[]int{1, 1, 0, 0}, 2}} {
		a := arenaOf(t, 0)
		l := []*step.Task{step.New(more(a, 0)), step.New(more(a, 0))}
		if got := step.Run(l, x.picks); got != 4 {
			t.Errorf("Run(%v) = %d, want 4", x.picks, got)
		}
		wantCells(t, "two tasks", a, 4, x.want)
	}
}

// P7.3: picks that are no place, and picks of what has ended, do nothing, and
// aren't counted.
func TestRun(t *testing.T) {
	for _, x := range []struct {
		picks []int
		want  int
		steps [3]int
	}{
		{nil, 0, [3]int{}},
		{[]int{}, 0, [3]int{}},
		{[]int{0}, 1, [3]int{1, 0, 0}},
		{[]int{2}, 1, [3]int{0, 0, 1}},
		{[]int{3, -1, 4, math.MinInt, math.MaxInt, 1 << 32, -1 << 32, 1<<32 + 1}, 0, [3]int{}},
		{[]int{1, 1, 1}, 0, [3]int{}},
		{[]int{0, 0, 0, 0}, 2, [3]int{2, 0, 0}},
		{[]int{2, 3, 0, -1, 2, 1, 0, 0, 2, 2}, 5, [3]int{2, 0, 3}},
		{[]int{3, 2, 1, 0}, 2, [3]int{1, 0, 1}},
	} {
		var did [3]int
		l := []*step.Task{step.New(idles(2, &did[0])), step.New(nil), step.New(idles(3, &did[2]))}
		picks := slices.Clone(x.picks)
		if got := step.Run(l, picks); got != x.want || did != x.steps {
			t.Errorf("Run(%v) = %d, steps %v, want %d, %v", x.picks, got, did, x.want, x.steps)
		}
		for i, n := range []int{2, 0, 3} {
			wantTask(t, "Run", l[i], x.steps[i], x.steps[i] == n)
		}
		if !slices.Equal(picks, x.picks) {
			t.Errorf("Run has changed its picks to %v", picks)
		}
	}
}

// P7.3: of no tasks nothing is done.
func TestRunOfNone(t *testing.T) {
	for _, l := range [][]*step.Task{nil, {}} {
		if got := step.Run(l, []int{0, 1, -1}); got != 0 {
			t.Errorf("Run of no tasks = %d", got)
		}
	}
}

// P7.3: a task that stands at two places is one; a Run goes on where another one
// ended, and the tasks stand in the list as before.
func TestRunGoesOn(t *testing.T) {
	did := 0
	x := step.New(idles(5, &did))
	l := []*step.Task{x, x}
	for i, r := range []struct {
		picks []int
		want  int
	}{{[]int{0, 1, 1}, 3}, {[]int{1}, 1}, {[]int{0, 1, 0}, 1}, {[]int{0, 1}, 0}} {
		if got := step.Run(l, r.picks); got != r.want {
			t.Errorf("Run %d = %d, want %d", i, got, r.want)
		}
	}
	wantTask(t, "a task at two places", x, 5, true)
	if l[0] != x || l[1] != x || did != 5 {
		t.Errorf("Run has changed the list, or done %d steps", did)
	}
}

// P7.3: the picks are gone through in order.
func TestRunInOrder(t *testing.T) {
	var got []int
	tell := func(w int) step.Code {
		var c step.Code
		for range 3 {
			rest := c
			c = step.Idle(func() step.Code {
				got = append(got, w)
				return rest
			})
		}
		return c
	}
	l := []*step.Task{step.New(tell(0)), step.New(tell(1)), step.New(tell(2))}
	step.Run(l, []int{2, 0, 1, 1, 2, 9, 0, 1, 1, 2, 0, 0})
	if want := []int{2, 0, 1, 1, 2, 0, 1, 2, 0}; !slices.Equal(got, want) {
		t.Errorf("the steps came as %v, want %v", got, want)
	}
}

// A worker is a plain list of accesses that are still to be done, each with its
// cell.
type worker struct {
	todo []access
	at   []int
	told []uint64
}

// codeOf cuts a worker's list into steps, each of which tells what it was told.
func codeOf(a *cell.Arena, w worker, told *[]uint64) step.Code {
	if len(w.todo) == 0 {
		return nil
	}
	return w.todo[0].code(a, w.at[0], func(v uint64) step.Code {
		*told = append(*told, v)
		return codeOf(a, worker{todo: w.todo[1:], at: w.at[1:]}, told)
	})
}

// next does a worker's next access in a plain list; how many accesses of a cell
// that there is that made.
func (w *worker) next(l []uint64) int {
	x, i, told, count := w.todo[0], w.at[0], uint64(0), 0
	if 0 <= i && i < len(l) {
		told, count = x.tell(l, i), x.does
	}
	w.todo, w.at, w.told = w.todo[1:], w.at[1:], append(w.told, told)
	return count
}

// drawWorker gives a worker with some accesses at random.
func drawWorker(r *rand.Rand) worker {
	var w worker
	few := []uint64{0, 1, 2, most}
	for range r.Intn(12) {
		all := accesses(few[r.Intn(len(few))], few[r.Intn(len(few))])
		w.todo = append(w.todo, all[r.Intn(len(all))])
		w.at = append(w.at, r.Intn(5)-1)
	}
	return w
}

// TestAgainstPlainLists runs tasks as picked at random, and holds cells, counts
// and all that was told against plain lists (P7.1 to P7.3): no pick touches more
// than its step does.
func TestAgainstPlainLists(t *testing.T) {
	r := rand.New(rand.NewSource(7))
	for range 500 {
		cells := []uint64{0, 1, most}
		a := arenaOf(t, cells...)
		workers := make([]worker, r.Intn(5))
		told := make([][]uint64, len(workers))
		var l []*step.Task
		for i := range workers {
			workers[i] = drawWorker(r)
			l = append(l, step.New(codeOf(a, workers[i], &told[i])))
		}
		count := 0
		for range 20 {
			var picks []int
			want := 0
			for range r.Intn(5) {
				i := r.Intn(len(l)+2) - 1
				picks = append(picks, i)
				if 0 <= i && i < len(l) && len(workers[i].todo) > 0 {
					count += workers[i].next(cells)
					want++
				}
			}
			if got := step.Run(l, picks); got != want {
				t.Fatalf("Run(%v) = %d, want %d", picks, got, want)
			}
			wantCells(t, "Run at random", a, count, cells...)
			for i, w := range workers {
				wantTask(t, "Run at random", l[i], len(w.told), len(w.todo) == 0)
				if !slices.Equal(told[i], w.told) {
					t.Fatalf("task %d was told %v, want %v", i, told[i], w.told)
				}
			}
		}
	}
}
