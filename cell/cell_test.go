package cell_test

import (
	"math"
	"math/rand"
	"slices"
	"sync"
	"testing"

	"knell/api"
	"knell/cell"
)

// most is the greatest number of a cell.
const most = uint64(math.MaxUint64)

func arenaOf(t *testing.T, l ...uint64) *cell.Arena {
	t.Helper()
	a, e := cell.Of(l)
	if e != api.OK || a == nil {
		t.Fatalf("Of(%v) answers %v, %v", l, a, e)
	}
	return a
}

// wantAll holds an arena's cells and its count of accesses against what they must be.
func wantAll(t *testing.T, a *cell.Arena, count int, want ...uint64) {
	t.Helper()
	if got := a.All(); !slices.Equal(got, want) {
		t.Errorf("All() = %v, want %v", got, want)
	}
	if got := a.Count(); got != count {
		t.Errorf("Count() = %d, want %d", got, count)
	}
}

// P2.1: so many cells, all 0, and no access yet.
func TestNew(t *testing.T) {
	if cell.MaxCells != 1048576 {
		t.Errorf("MaxCells is %d", cell.MaxCells)
	}
	for _, n := range []int{1, 2, 3, 1000, cell.MaxCells - 1, cell.MaxCells} {
		a, e := cell.New(n)
		if e != api.OK || a == nil {
			t.Fatalf("New(%d) answers %v, %v", n, a, e)
		}
		if a.Len() != n || a.Count() != 0 {
			t.Errorf("New(%d): Len() = %d, Count() = %d", n, a.Len(), a.Count())
		}
		l := a.All()
		if len(l) != n || slices.ContainsFunc(l, func(v uint64) bool { return v != 0 }) {
			t.Errorf("New(%d): All() has %d numbers, or one that isn't 0", n, len(l))
		}
		if !a.Store(n-1, 3) || a.Load(n-1) != 3 || a.Store(n, 3) {
			t.Errorf("New(%d): its last cell is not the one of the number %d", n, n-1)
		}
	}
}

// P2.1: no arena of a number of cells that isn't from 1 to MaxCells.
func TestNewOfWrongNumbers(t *testing.T) {
	for _, n := range []int{0, -1, cell.MaxCells + 1, 1 << 40, math.MaxInt, math.MinInt} {
		if a, e := cell.New(n); a != nil || e != api.ErrArg {
			t.Errorf("New(%d) answers %v, %v", n, a, e)
		}
	}
}

// P2.1: an arena's cells have the numbers told, without an access yet.
func TestOf(t *testing.T) {
	for _, l := range [][]uint64{{0}, {7}, {1, 0, most}, {5, 4, 3, 2, 1}} {
		a := arenaOf(t, l...)
		if a.Len() != len(l) {
			t.Errorf("Of(%v): Len() = %d", l, a.Len())
		}
		wantAll(t, a, 0, l...)
		for i, v := range l {
			if got := a.Load(i); got != v {
				t.Errorf("Of(%v): Load(%d) = %d", l, i, got)
			}
		}
	}
	l := make([]uint64, cell.MaxCells)
	l[0], l[cell.MaxCells-1] = 1, 2
	wantAll(t, arenaOf(t, l...), 0, l...)
}

// P2.1: no arena of no numbers, or of too many.
func TestOfWrongLists(t *testing.T) {
	for _, l := range [][]uint64{nil, {}, make([]uint64, cell.MaxCells+1)} {
		if a, e := cell.Of(l); a != nil || e != api.ErrArg {
			t.Errorf("Of(%d numbers) answers %v, %v", len(l), a, e)
		}
	}
}

// K5: the list told isn't kept, and isn't changed by accesses.
func TestOfKeepsNoList(t *testing.T) {
	l := []uint64{1, 2}
	a := arenaOf(t, l...)
	l[0] = 9
	a.Store(1, 8)
	if l[1] != 2 {
		t.Errorf("the list told is %v", l)
	}
	wantAll(t, a, 1, 1, 8)
	b, c := arenaOf(t, 1), arenaOf(t, 1)
	b.Store(0, 2)
	wantAll(t, b, 1, 2)
	wantAll(t, c, 0, 1)
}

// P2.1: of a cell that there isn't, accesses do nothing and answer 0 or false;
// P2.3: they aren't counted.
func TestCellsThatThereAreNot(t *testing.T) {
	a := arenaOf(t, 1, 2, 3)
	for _, i := range []int{-1, -2, 3, 4, cell.MaxCells, 1 << 32, math.MaxInt, math.MinInt} {
		if v := a.Load(i); v != 0 {
			t.Errorf("Load(%d) = %d", i, v)
		}
		if a.Store(i, 5) {
			t.Errorf("Store(%d, 5) answers true", i)
		}
		if v := a.Swap(i, 5); v != 0 {
			t.Errorf("Swap(%d, 5) = %d", i, v)
		}
		for old := range uint64(4) {
			if a.Cas(i, old, 5) {
				t.Errorf("Cas(%d, %d, 5) answers true", i, old)
			}
		}
		if v := a.Add(i, 5); v != 0 {
			t.Errorf("Add(%d, 5) = %d", i, v)
		}
	}
	wantAll(t, a, 0, 1, 2, 3)
}

// P2.2: Load tells what a cell has, and leaves it.
func TestLoad(t *testing.T) {
	a := arenaOf(t, 4, most)
	for range 2 {
		if v, w := a.Load(0), a.Load(1); v != 4 || w != most {
			t.Errorf("Load tells %d, %d", v, w)
		}
	}
	wantAll(t, a, 4, 4, most)
}

// P2.2: a cell has what is stored; the others have what they had.
func TestStore(t *testing.T) {
	a := arenaOf(t, 4, 5, 6)
	for _, v := range []uint64{0, 1, 1, 1 << 63, most} {
		if !a.Store(1, v) {
			t.Errorf("Store(1, %d) answers false", v)
		}
		if got := a.Load(1); got != v {
			t.Errorf("Load(1) = %d behind Store(1, %d)", got, v)
		}
	}
	wantAll(t, a, 10, 4, most, 6)
}

// P2.2: a cell has what is swapped in; what it had is told.
func TestSwap(t *testing.T) {
	a := arenaOf(t, 4, 5)
	had := uint64(5)
	for _, v := range []uint64{7, 7, 0, most, 1} {
		if got := a.Swap(1, v); got != had {
			t.Errorf("Swap(1, %d) = %d, want %d", v, got, had)
		}
		had = v
	}
	wantAll(t, a, 5, 4, 1)
}

// P2.2: a Cas writes just if the cell has what is told; and the chapter's example.
func TestCas(t *testing.T) {
	a := arenaOf(t, 0, 0)
	if !a.Cas(0, 0, 5) {
		t.Error("Cas(0, 0, 5) answers false, the cell had 0")
	}
	wantAll(t, a, 1, 5, 0)
	if a.Cas(0, 0, 5) || a.Cas(0, 4, 6) || a.Cas(0, 5|1<<32, 6) || a.Cas(0, 5|1<<63, 6) {
		t.Error("Cas of what the cell hasn't answers true")
	}
	wantAll(t, a, 5, 5, 0)
	if !a.Cas(0, 5, 5) || !a.Cas(0, 5, most) || !a.Cas(0, most, 0) {
		t.Error("Cas of what the cell has answers false")
	}
	wantAll(t, a, 8, 0, 0)
}

// P2.2: adding goes modulo 2^64; what the cell had is told.
func TestAdd(t *testing.T) {
	a := arenaOf(t, 4, 0)
	for _, x := range []struct{ v, had uint64 }{
		{0, 4}, {3, 4}, {most, 7}, {most - 5, 6}, {1, 0}, {1 << 63, 1}, {1 << 63, 1<<63 + 1}, {most, 1},
	} {
		if got := a.Add(0, x.v); got != x.had {
			t.Errorf("Add(0, %d) = %d, want %d", x.v, got, x.had)
		}
	}
	wantAll(t, a, 8, 0, 0)
}

// P2.3: each access is counted once, that of a Cas that writes nothing too;
// Len, Count and All are none.
func TestCount(t *testing.T) {
	a := arenaOf(t, 1, 2)
	for i, access := range []func(){
		func() { a.Load(0) },
		func() { a.Store(1, 2) },
		func() { a.Swap(0, 1) },
		func() { a.Cas(0, 1, 1) },
		func() { a.Cas(0, 7, 1) },
		func() { a.Add(0, 0) },
	} {
		before := a.Count()
		access()
		a.All()
		a.Len()
		if got := a.Count(); got != before+1 {
			t.Errorf("access %d: Count() goes from %d to %d", i, before, got)
		}
	}
}

// P2.3: what All answers is new memory.
func TestAllIsACopy(t *testing.T) {
	a := arenaOf(t, 1, 2)
	l := a.All()
	l[0] = 9
	wantAll(t, a, 0, 1, 2)
	a.Store(1, 8)
	if l[1] != 2 {
		t.Errorf("a list that was answered is %v behind a Store", l)
	}
}

// TestAgainstAPlainList goes through accesses at random, and holds each answer
// against that of a plain list (P2.1 to P2.3).
func TestAgainstAPlainList(t *testing.T) {
	r := rand.New(rand.NewSource(2))
	few := []uint64{0, 1, 2, 1 << 32, 1 << 63, most}
	for range 200 {
		l := make([]uint64, 1+r.Intn(4))
		for i := range l {
			l[i] = few[r.Intn(len(few))]
		}
		a, count := arenaOf(t, l...), 0
		for range 100 {
			i, v, old := r.Intn(len(l)+2)-1, few[r.Intn(len(few))], few[r.Intn(len(few))]
			if i < 0 || i >= len(l) {
				if a.Load(i) != 0 || a.Store(i, v) || a.Swap(i, v) != 0 || a.Cas(i, old, v) || a.Add(i, v) != 0 {
					t.Fatalf("an access of cell %d of %d does something", i, len(l))
				}
				continue
			}
			count++
			had := l[i]
			switch r.Intn(5) {
			case 0:
				if got := a.Load(i); got != had {
					t.Fatalf("Load(%d) = %d, want %d", i, got, had)
				}
			case 1:
				l[i] = v
				if !a.Store(i, v) {
					t.Fatalf("Store(%d, %d) answers false", i, v)
				}
			case 2:
				l[i] = v
				if got := a.Swap(i, v); got != had {
					t.Fatalf("Swap(%d, %d) = %d, want %d", i, v, got, had)
				}
			case 3:
				if had == old {
					l[i] = v
				}
				if got := a.Cas(i, old, v); got != (had == old) {
					t.Fatalf("Cas(%d, %d, %d) = %v, the cell had %d", i, old, v, got, had)
				}
			case 4:
				l[i] += v
				if got := a.Add(i, v); got != had {
					t.Fatalf("Add(%d, %d) = %d, want %d", i, v, got, had)
				}
			}
		}
		wantAll(t, a, count, l...)
	}
}

// atOnce does something with several workers at once, and waits for all of them.
func atOnce(workers int, do func(w int)) {
	var all sync.WaitGroup
	for w := range workers {
		all.Go(func() { do(w) })
	}
	all.Wait()
}

// Words, Ways: there is one order of all accesses, of several workers too, and
// none is left out of the count.
func TestOneOrder(t *testing.T) {
	const workers, turns = 8, 2000
	a := arenaOf(t, 0, 0, 0, 0)
	told := make([][]uint64, workers)
	swapped := make([]uint64, workers)
	tries := make([]int, workers)
	atOnce(workers, func(w int) {
		for i := range turns {
			told[w] = append(told[w], a.Add(0, 1))
			swapped[w] += a.Swap(2, uint64(w*turns+i+1))
			for {
				v := a.Load(1)
				tries[w]++
				if a.Cas(1, v, v+1) {
					break
				}
			}
			a.Store(3, 7)
		}
	})
	all := slices.Concat(told...)
	slices.Sort(all)
	for i, v := range all {
		if v != uint64(i) {
			t.Fatalf("Add told %d where %d must be: two of them had the same, or one is lost", v, i)
		}
	}
	const n = workers * turns
	sum, count := uint64(0), 3*n
	for w := range workers {
		sum += swapped[w]
		count += 2 * tries[w]
	}
	last := a.All()[2]
	if want := uint64(n) * (n + 1) / 2; sum+last != want {
		t.Errorf("what Swap told and left makes %d, want %d", sum+last, want)
	}
	wantAll(t, a, count, n, n, last, 7)
}
