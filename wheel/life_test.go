package wheel_test

import (
	"math/rand"
	"slices"
	"testing"

	"knell/wheel"
)

// A place is where tickets stand.
type place struct{ level, slot int }

// A model is what a wheel has, told as the chapter tells it, by division: the
// tickets at each place, and when they are due.
type model struct {
	levels, bits int
	at           map[place][]int
	due          []int
}

// unit gives how much one more of a level's digit is.
func (m *model) unit(level int) int { return 1 << (level * m.bits) }

func (m *model) digit(at, level int) int { return at / m.unit(level) % m.unit(1) }

func (m *model) floor(at, level int) int { return at - at%m.unit(level) }

// top gives the highest level at which two times differ; they do.
func (m *model) top(a, b int) int {
	level := 32 / m.bits
	for m.digit(a, level) == m.digit(b, level) {
		level--
	}
	return level
}

func (m *model) insert(i, now, due int) {
	p := place{m.top(now, due), 0}
	if p.level >= m.levels {
		p.level = m.levels
	} else {
		p.slot = m.digit(due, p.level)
	}
	m.at[p] = slices.Insert(m.at[p], 0, i)
	m.due[i] = due
}

// places gives all places, in order.
func (m *model) places() []place {
	var l []place
	for level := range m.levels {
		for i := range m.unit(1) {
			l = append(l, place{level, i})
		}
	}
	return append(l, place{m.levels, 0})
}

// isPassed tells whether a place is passed from one time to a later one.
func (m *model) isPassed(p place, from, to int) bool {
	top := m.top(from, to)
	if p.level < m.levels && p.level == top {
		return p.slot > m.digit(from, top) && p.slot <= m.digit(to, top)
	}
	return p.level <= top
}

// pass takes what is passed, list by list.
func (m *model) pass(from, to int) [][]int {
	var lists [][]int
	for _, p := range m.places() {
		if to > from && len(m.at[p]) > 0 && m.isPassed(p, from, to) {
			lists = append(lists, m.at[p])
			delete(m.at, p)
		}
	}
	return lists
}

func (m *model) peek(now int) int {
	for _, p := range m.places() {
		if len(m.at[p]) == 0 {
			continue
		}
		if p.level == m.levels {
			return m.floor(now, p.level) + m.unit(p.level)
		}
		if p.slot > m.digit(now, p.level) {
			return m.floor(now, p.level+1) + p.slot*m.unit(p.level)
		}
	}
	return -1
}

func (m *model) list() []wheel.Ticket {
	var l []wheel.Ticket
	for _, p := range m.places() {
		for _, i := range m.at[p] {
			l = append(l, wheel.Ticket{T: i, Level: p.level, Slot: p.slot})
		}
	}
	return l
}

// set gives the set of a level's slots that have tickets.
func (m *model) set(level int) uint64 {
	var set uint64
	for i := range m.unit(1) {
		if len(m.at[place{level, i}]) > 0 {
			set |= 1 << i
		}
	}
	return set
}

// slotsPassed gives how many slots are passed.
func (m *model) slotsPassed(from, to int) int {
	n := 0
	for _, p := range m.places() {
		if to > from && p.level < m.levels && m.isPassed(p, from, to) {
			n++
		}
	}
	return n
}

// A life is a wheel, with its model beside it, and the time at which it stands.
type life struct {
	t   *testing.T
	w   wheel.Wheel
	m   *model
	now int
	out []int // the tickets that stand nowhere
}

func newLife(t *testing.T, levels, bits, tickets, now int) *life {
	t.Helper()
	b := &life{t: t, w: newWheel(t, levels, bits, tickets), now: now}
	b.m = &model{levels: levels, bits: bits, at: map[place][]int{}, due: make([]int, tickets)}
	for i := range tickets {
		b.out = append(b.out, i)
	}
	return b
}

// put lets a ticket stand in the wheel, if one is left.
func (b *life) put(due int) {
	b.t.Helper()
	if len(b.out) == 0 || due <= b.now || due > lastTime {
		return
	}
	i := b.out[0]
	b.out = b.out[1:]
	insert(b.t, b.w, i, b.now, due)
	b.m.insert(i, b.now, due)
	b.hold()
}

// pass lets the wheel stand at a time; what is taken off that isn't due by then
// is put again, if that is told.
func (b *life) pass(to int, again bool) {
	b.t.Helper()
	most := b.m.slotsPassed(b.now, to)
	lists := b.m.pass(b.now, to)
	firsts := passes(b.t, b.w, b.now, to, most)
	var got [][]int
	for _, i := range firsts {
		got = append(got, b.follow(i))
	}
	if !slices.EqualFunc(got, lists, slices.Equal) {
		b.t.Fatalf("Pass(%d, %d) takes off %v, want %v", b.now, to, got, lists)
	}
	if to > b.now {
		b.now = to
	}
	b.hold()
	taken := slices.Concat(lists...)
	b.out = append(b.out, taken...)
	for _, i := range taken {
		if due := b.m.due[i]; again && due > b.now {
			b.out = slices.DeleteFunc(b.out, func(k int) bool { return k == i })
			b.out = slices.Insert(b.out, 0, i)
			b.put(due)
		}
	}
}

// follow gives the tickets of a list that was taken off.
func (b *life) follow(first int) []int {
	cells := b.w.Cells.All()
	var l []int
	for i := first; i >= 0 && len(l) < len(cells); i = int(cells[b.w.Link(i)]) - 1 {
		l = append(l, i)
	}
	return l
}

// hold holds the wheel against its model, and against P10.3 and P10.4: nothing that
// is due by now stands in it; and nothing is due ahead of what Peek tells, which is
// later than now.
func (b *life) hold() {
	b.t.Helper()
	l, cells := b.w.List(), b.w.Cells.All()
	if want := b.m.list(); !slices.Equal(l, want) {
		b.t.Fatalf("at %d: List() = %v, want %v", b.now, l, want)
	}
	for level := range b.w.Levels {
		if got, want := cells[b.w.Map(level)], b.m.set(level); got != want {
			b.t.Fatalf("at %d: the set of level %d is %x, want %x", b.now, level, got, want)
		}
	}
	peek := peeks(b.t, b.w, b.now)
	if want := b.m.peek(b.now); peek != want {
		b.t.Fatalf("at %d: Peek tells %d, want %d", b.now, peek, want)
	}
	for _, x := range l {
		due := b.m.due[x.T]
		if due <= b.now || due < peek || peek <= b.now {
			b.t.Fatalf("at %d: %v is due at %d, Peek tells %d", b.now, x, due, peek)
		}
	}
}

// P10.1 to P10.4: small wheels, at each time, with a ticket for each time to come;
// they come to stand at each later time.
func TestAllSmall(t *testing.T) {
	for _, x := range []struct{ levels, bits, last int }{{1, 1, 8}, {2, 1, 12}, {3, 1, 18}, {1, 2, 13}, {2, 2, 34}, {1, 3, 18}} {
		for now := range x.last {
			for to := range x.last {
				b := newLife(t, x.levels, x.bits, x.last, now)
				for due := now + 1; due < x.last; due++ {
					b.put(due)
				}
				b.pass(to, true)
				b.pass(x.last+1, true)
				wantList(t, "at last", b.w)
				wantPeek(t, b.w, b.now, -1)
			}
		}
	}
}

// P10.3, P10.4: one that goes from Peek to Peek finds each ticket just when it is
// due. (None is more than some rounds of the wheel off, as each round is a Peek.)
func TestFromPeekToPeek(t *testing.T) {
	r := rand.New(rand.NewSource(10))
	for range 300 {
		b := newLife(t, 1+r.Intn(8), 1+r.Intn(6), 1+r.Intn(20), r.Intn(lastTime))
		for range len(b.out) {
			b.put(b.now + 1 + r.Intn(min(2<<r.Intn(32), 50<<(b.w.Levels*b.w.Bits))))
		}
		due := map[int]bool{}
		for _, x := range b.w.List() {
			due[b.m.due[x.T]] = true
		}
		for to := peeks(t, b.w, b.now); to != -1; to = peeks(t, b.w, b.now) {
			if to <= b.now {
				t.Fatalf("at %d Peek tells %d", b.now, to)
			}
			b.pass(to, true)
			delete(due, to)
		}
		if len(due) > 0 {
			t.Fatalf("the times %v were passed by", due)
		}
	}
}

// farther gives a time that is at least so far behind another one, near and far
// ones alike, or the last one of all.
func farther(r *rand.Rand, now, least int) int {
	return min(now+least+r.Intn(1<<r.Intn(33)), lastTime)
}

// P10.1 to P10.4: wheels of all kinds, at all times, that live at random.
func TestLives(t *testing.T) {
	r := rand.New(rand.NewSource(4))
	for range 1500 {
		now := r.Intn(1 << r.Intn(33))
		if r.Intn(4) == 0 {
			now |= 1<<r.Intn(32) - 1 // just ahead of where many digits turn
		}
		b := newLife(t, 1+r.Intn(8), 1+r.Intn(6), 1+r.Intn(12), now)
		for range 30 {
			switch r.Intn(4) {
			case 0:
				b.pass(farther(r, b.now, 0), r.Intn(3) > 0)
			case 1:
				b.pass(b.now-r.Intn(3), true)
			default:
				b.put(farther(r, b.now, 1))
			}
		}
	}
}
