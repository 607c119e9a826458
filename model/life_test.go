package model_test

import (
	"math/rand"
	"slices"
	"testing"

	"knell/api"
	"knell/event"
	"knell/model"
)

// A record is a handle that was made, and what became of it.
type record struct {
	h                api.Handle
	deadline, status int
}

// A book is what a model has, told as the chapter tells it: the time, and all
// handles that were ever made, each of which is looked at whenever one is asked
// for.
type book struct {
	time int
	all  []record
}

// status gives what became of a handle.
func (b *book) status(h api.Handle) int {
	for _, r := range b.all {
		if r.h == h {
			return r.status
		}
	}
	return unknown
}

// turn gives a handle another status.
func (b *book) turn(h api.Handle, status int) {
	for i, r := range b.all {
		if r.h == h {
			b.all[i].status = status
		}
	}
}

// mayStart tells whether none of a handle's node is armed, or as new as it.
func (b *book) mayStart(h api.Handle) bool {
	return !slices.ContainsFunc(b.all, func(r record) bool {
		return r.h.Node == h.Node && (r.status == armed || r.h.Gen >= h.Gen)
	})
}

// mayFire tells whether a handle is armed, with a deadline that isn't above a
// stamp, and that not above the time.
func (b *book) mayFire(h api.Handle, stamp int) bool {
	return stamp <= b.time && slices.ContainsFunc(b.all, func(r record) bool {
		return r.h == h && r.status == armed && r.deadline <= stamp
	})
}

// can tells whether a right event that is no Invoke and no Return can be.
func (b *book) can(e event.Event) bool {
	is := b.status(e.Handle) == armed
	next := e.New.Node == e.Handle.Node && e.New.Gen == e.Handle.Gen+1
	switch {
	case e.Kind == event.Tick:
		return e.Time == b.time+1
	case e.Kind == event.Fire:
		return b.mayFire(e.Handle, e.Time)
	case e.Op == event.Cancel:
		return is == e.Yes
	case e.Op == event.Start && e.Err == api.OK:
		return b.mayStart(e.New)
	case e.Op == event.Rearm && e.Err == api.OK:
		return is && next
	case e.Op == event.Migrate && e.Err == api.OK:
		return is
	case e.Op == event.Start, e.Err != api.ErrStale:
		return true
	}
	return !is
}

// write lets an event come about that can be.
func (b *book) write(e event.Event) {
	switch {
	case e.Kind == event.Tick:
		b.time = e.Time
	case e.Kind == event.Fire:
		b.turn(e.Handle, fired)
	case e.Op == event.Cancel && e.Yes:
		b.turn(e.Handle, cancelled)
	case e.Op == event.Rearm && e.Err == api.OK:
		b.turn(e.Handle, superseded)
		b.all = append(b.all, record{e.New, e.Time, armed})
	case e.Op == event.Start && e.Err == api.OK:
		b.all = append(b.all, record{e.New, e.Time, armed})
	}
}

// answer gives what Do answers.
func (b *book) answer(e event.Event) api.Errno {
	if !event.Right(e) || e.Kind == event.Invoke || e.Kind == event.Return {
		return api.ErrForm
	}
	if !b.can(e) {
		return api.ErrState
	}
	return api.OK
}

// look gives all that a model with the book's timers tells.
func (b *book) look(asked []api.Handle) look {
	l := look{clock: b.time, least: -1}
	for _, r := range b.all {
		if r.status != armed {
			continue
		}
		l.armed = append(l.armed, model.Timer{Handle: r.h, Deadline: r.deadline})
		if l.least < 0 || r.deadline < l.least {
			l.least = r.deadline
		}
	}
	slices.SortFunc(l.armed, func(x, y model.Timer) int { return x.Handle.Node - y.Handle.Node })
	for _, h := range asked {
		l.statuses = append(l.statuses, b.status(h))
	}
	return l
}

// A life is a model, with its book beside it.
type life struct {
	t     *testing.T
	m     *model.Model
	b     *book
	asked []api.Handle
}

// hear lets an event come about in both, if it can.
func (x *life) hear(e event.Event) api.Errno {
	x.t.Helper()
	want := x.b.answer(e)
	if got := x.m.Do(e); got != want {
		x.t.Fatalf("Do(%+v) = %d, want %d, in %+v", e, got, want, *x.b)
	}
	if want == api.OK {
		x.b.write(e)
	}
	return want
}

// hold holds the model against its book.
func (x *life) hold(what string, e event.Event) {
	x.t.Helper()
	if got, want := lookAt(x.m, x.asked), x.b.look(x.asked); !got.same(want) {
		x.t.Fatalf("%s %+v: %+v, want %+v", what, e, got, want)
	}
}

// small gives all handles of some nodes and generations, from -1 on.
func small(nodes, gens int) []api.Handle {
	var l []api.Handle
	for node := -1; node < nodes; node++ {
		for gen := -1; gen < gens; gen++ {
			l = append(l, handle(node, gen))
		}
	}
	return l
}

// eventsOf gives all that may be told of some handles, and times below one,
// wrong things among them.
func eventsOf(handles []api.Handle, times int) []event.Event {
	errs := []api.Errno{api.OK, api.ErrStale, api.ErrFull, 99, -1}
	l := []event.Event{{}, {Kind: event.Invoke, Op: event.Next}, {Kind: event.Return, Op: event.Advance}}
	for _, e := range errs {
		l = append(l, startFails(e))
	}
	for _, h := range handles {
		l = append(l, cancel(h, true), cancel(h, false))
		for _, e := range errs {
			l = append(l, rearmFails(h, e), migrate(h, e))
		}
		for time := -1; time < times; time++ {
			l = append(l, start(h, time), fire(h, time))
			for _, made := range []api.Handle{h, handle(h.Node, h.Gen+1), handle(h.Node, h.Gen+2), handle(h.Node+1, h.Gen+1), handle(h.Node, h.Gen-1)} {
				l = append(l, rearm(h, made, time))
			}
		}
	}
	for time := -1; time < times; time++ {
		l = append(l, tick(time))
	}
	return l
}

// P12.1 to P12.3: in random lives of a few handles all that may be told is
// answered as the chapter says, and what can't be changes nothing; all that is
// told of the model is so behind each event.
func TestSmallLives(t *testing.T) {
	const times = 5
	handles := small(2, 4)
	events := eventsOf(handles, times)
	for seed := range int64(150) {
		r := rand.New(rand.NewSource(seed))
		x := &life{t, model.New(), &book{}, handles}
		for range 15 {
			var may []event.Event
			for _, e := range events {
				if x.b.answer(e) == api.OK {
					may = append(may, e)
				} else {
					x.hear(e)
				}
			}
			x.hold("behind what can't be, as", events[0])
			e := may[r.Intn(len(may))]
			x.hear(e)
			x.hold("behind", e)
		}
	}
}

// P12.1 to P12.3: every three events of a small choice, one behind the other.
func TestAllShortLives(t *testing.T) {
	h, next := handle(0, 0), handle(0, 1)
	choice := []event.Event{
		tick(1), tick(2), start(h, 0), start(h, 1), start(next, 1), start(handle(1, 0), 2), startFails(api.ErrStale),
		cancel(h, true), cancel(h, false), cancel(next, true), rearm(h, next, 0), rearm(h, next, 1), rearm(h, handle(0, 2), 0),
		rearmFails(h, api.ErrStale), rearmFails(h, api.ErrExhausted), migrate(h, api.OK), migrate(h, api.ErrStale), migrate(next, api.OK),
		fire(h, 0), fire(h, 1), fire(next, 0), fire(next, 1),
	}
	asked := small(2, 3)
	var all func(l []event.Event, left int)
	all = func(l []event.Event, left int) {
		if left == 0 {
			x := &life{t, model.New(), &book{}, asked}
			for _, e := range l {
				x.hear(e)
				x.hold("behind", e)
			}
			return
		}
		for _, e := range choice {
			all(append(slices.Clone(l), e), left-1)
		}
	}
	all(nil, 3)
}

// draw gives an event that often can be.
func draw(r *rand.Rand, b *book, nodes int) event.Event {
	h := handle(r.Intn(nodes), r.Intn(3))
	if l := b.look(nil).armed; len(l) > 0 && r.Intn(4) > 0 {
		h = l[r.Intn(len(l))].Handle
	} else if len(b.all) > 0 {
		h = b.all[r.Intn(len(b.all))].h
	}
	err := []api.Errno{api.OK, api.ErrStale, api.ErrExhausted}[r.Intn(3)]
	switch r.Intn(9) {
	case 0:
		return tick(b.time + 1 + r.Intn(6)/5)
	case 1:
		return cancel(h, r.Intn(2) == 0)
	case 2:
		return rearm(h, handle(h.Node, h.Gen+1), b.time+r.Intn(3))
	case 3:
		return rearmFails(h, err)
	case 4:
		return migrate(h, err)
	case 5:
		return fire(h, max(b.time-r.Intn(3), 0))
	case 6:
		return start(handle(r.Intn(nodes), r.Intn(3)), b.time+r.Intn(3))
	case 7:
		return start(handle(r.Intn(nodes), len(b.all)+r.Intn(3)), b.time+r.Intn(3))
	}
	return start(handle(h.Node, h.Gen+r.Intn(4)), b.time+r.Intn(3))
}

// P12.1 to P12.3: long lives, with many generations; no handle fires twice or
// ahead of its deadline, and each end stays.
func TestLongLives(t *testing.T) {
	for seed := range int64(20) {
		r := rand.New(rand.NewSource(seed))
		x := &life{t, model.New(), &book{}, nil}
		deadlines, ends := map[api.Handle]int{}, map[api.Handle]int{}
		fires := 0
		for range 3000 {
			e := draw(r, x.b, 4)
			if x.hear(e) != api.OK {
				continue
			}
			if e.Kind == event.Fire {
				if ends[e.Handle] != unknown || e.Time < deadlines[e.Handle] || e.Time > x.m.Clock() {
					t.Fatalf("Do(%+v) = OK, with the deadline %d, behind %d", e, deadlines[e.Handle], ends[e.Handle])
				}
				fires++
			}
			if e.Kind == event.Point && e.Err == api.OK && (e.Op == event.Start || e.Op == event.Rearm) {
				deadlines[e.New] = e.Time
			}
			x.asked = append(near(e), e.Handle, e.New)
			x.hold("behind", e)
			if s := x.m.Status(e.Handle); s > armed && ends[e.Handle] == unknown {
				ends[e.Handle] = s
			}
		}
		for h, want := range ends {
			wantStatus(t, x.m, h, want)
		}
		if fires < 50 || len(ends) < 300 {
			t.Errorf("seed %d: only %d fires of %d ends", seed, fires, len(ends))
		}
	}
}

// P1: many handles, of one node and of many nodes, are as quick as few: what
// was made long ago isn't gone through again.
func TestManyHandles(t *testing.T) {
	const count = 200000
	m := model.New()
	for i := range count {
		for _, e := range []event.Event{start(handle(0, 2*i), 0), rearm(handle(0, 2*i), handle(0, 2*i+1), 0), fire(handle(0, 2*i+1), 0), start(handle(1+i, 0), 5+i)} {
			if er := m.Do(e); er != api.OK {
				t.Fatalf("Do(%+v) = %d, want OK", e, er)
			}
		}
	}
	l := m.Armed()
	if len(l) != count || l[0] != (model.Timer{Handle: handle(1, 0), Deadline: 5}) || l[count-1] != (model.Timer{Handle: handle(count, 0), Deadline: 4 + count}) || m.Least() != 5 {
		t.Errorf("%d are armed, the first %v, the last %v, the least %d", len(l), l[0], l[count-1], m.Least())
	}
	for _, gen := range []int{0, 1, count, count + 1, 2*count - 2, 2*count - 1} {
		wantStatus(t, m, handle(0, gen), [2]int{superseded, fired}[gen%2])
	}
}
