package model_test

import (
	"math"
	"slices"
	"testing"

	"knell/api"
	"knell/event"
	"knell/model"
)

// The statuses, as the chapter tells their numbers.
const (
	unknown    = 0
	armed      = 1
	fired      = 2
	cancelled  = 3
	superseded = 4
)

func handle(node, gen int) api.Handle { return api.Handle{Node: node, Gen: gen} }

func tick(time int) event.Event { return event.Event{Kind: event.Tick, Time: time} }

func start(made api.Handle, deadline int) event.Event {
	return event.Event{Kind: event.Point, Op: event.Start, New: made, Time: deadline}
}

func startFails(e api.Errno) event.Event {
	return event.Event{Kind: event.Point, Op: event.Start, Err: e}
}

func cancel(h api.Handle, yes bool) event.Event {
	return event.Event{Kind: event.Point, Op: event.Cancel, Handle: h, Yes: yes}
}

func rearm(h, made api.Handle, deadline int) event.Event {
	return event.Event{Kind: event.Point, Op: event.Rearm, Handle: h, New: made, Time: deadline}
}

func rearmFails(h api.Handle, e api.Errno) event.Event {
	return event.Event{Kind: event.Point, Op: event.Rearm, Handle: h, Err: e}
}

func migrate(h api.Handle, e api.Errno) event.Event {
	return event.Event{Kind: event.Point, Op: event.Migrate, Handle: h, Err: e}
}

func fire(h api.Handle, stamp int) event.Event {
	return event.Event{Kind: event.Fire, Handle: h, Time: stamp}
}

// look is all that a model tells.
type look struct {
	clock    int
	least    int
	armed    []model.Timer
	statuses []int // of the handles asked for
}

func lookAt(m *model.Model, asked []api.Handle) look {
	l := look{clock: m.Clock(), least: m.Least(), armed: m.Armed()}
	for _, h := range asked {
		l.statuses = append(l.statuses, m.Status(h))
	}
	return l
}

func (l look) same(o look) bool {
	return l.clock == o.clock && l.least == o.least && slices.Equal(l.armed, o.armed) && slices.Equal(l.statuses, o.statuses)
}

// near gives handles whose status an event might touch: its own two, those
// beside them, and that of all 0.
func near(e event.Event) []api.Handle {
	l := []api.Handle{{}}
	for _, h := range []api.Handle{e.Handle, e.New} {
		for _, gen := range []int{-1, 0, 1} {
			l = append(l, handle(h.Node, h.Gen+gen))
		}
	}
	return l
}

// do lets an event come about that must be answered so. One that is answered
// with an error changes nothing (P12.2, K4).
func do(t *testing.T, m *model.Model, e event.Event, want api.Errno) {
	t.Helper()
	before := lookAt(m, near(e))
	if got := m.Do(e); got != want {
		t.Fatalf("Do(%+v) = %d, want %d", e, got, want)
	}
	if after := lookAt(m, near(e)); want != api.OK && !after.same(before) {
		t.Fatalf("Do(%+v) makes %+v of %+v", e, after, before)
	}
}

// told gives a model in which events have come about, each of which can be.
func told(t *testing.T, events ...event.Event) *model.Model {
	t.Helper()
	m := model.New()
	for _, e := range events {
		do(t, m, e, api.OK)
	}
	return m
}

// stays holds that an event can be, and changes nothing.
func stays(t *testing.T, m *model.Model, e event.Event) {
	t.Helper()
	before := lookAt(m, near(e))
	do(t, m, e, api.OK)
	if after := lookAt(m, near(e)); !after.same(before) {
		t.Fatalf("Do(%+v) makes %+v of %+v", e, after, before)
	}
}

func wantStatus(t *testing.T, m *model.Model, h api.Handle, want int) {
	t.Helper()
	if got := m.Status(h); got != want {
		t.Errorf("Status(%v) = %d, want %d", h, got, want)
	}
}

func wantArmed(t *testing.T, m *model.Model, least int, want ...model.Timer) {
	t.Helper()
	if got := m.Armed(); !slices.Equal(got, want) {
		t.Errorf("Armed() = %v, want %v", got, want)
	}
	if got := m.Least(); got != least {
		t.Errorf("Least() = %d, want %d", got, least)
	}
}

func wantClock(t *testing.T, m *model.Model, want int) {
	t.Helper()
	if got := m.Clock(); got != want {
		t.Errorf("Clock() = %d, want %d", got, want)
	}
}

// The statuses' numbers, as the chapter tells them.
func TestNumbers(t *testing.T) {
	if l := [2]int{model.Unknown, model.Superseded}; l != [2]int{0, 4} {
		t.Error(l)
	}
}

// The chapter's example.
func TestExample(t *testing.T) {
	h := handle(0, 1)
	m := told(t, start(h, 1))
	do(t, m, fire(h, 1), api.ErrState)
	do(t, m, tick(1), api.OK)
	do(t, m, fire(h, 1), api.OK)
	wantStatus(t, m, h, fired)
}

// P12.1: a model in which nothing has happened.
func TestNew(t *testing.T) {
	m := model.New()
	wantClock(t, m, 0)
	wantArmed(t, m, -1)
	for _, h := range []api.Handle{{}, handle(0, 1), handle(1, 0), handle(-1, -1), handle(math.MinInt, math.MinInt), handle(math.MaxInt, math.MaxInt)} {
		wantStatus(t, m, h, unknown)
	}
}

// P12.1: each status, and unknown of what is beside a handle that was made.
func TestStatus(t *testing.T) {
	m := told(t,
		start(handle(0, 0), 5), start(handle(1, 7), 0), start(handle(2, 3), 9), start(handle(3, 1), 1),
		cancel(handle(2, 3), true), rearm(handle(3, 1), handle(3, 2), 6), fire(handle(1, 7), 0))
	for h, want := range map[api.Handle]int{
		handle(0, 0): armed, handle(1, 7): fired, handle(2, 3): cancelled, handle(3, 1): superseded, handle(3, 2): armed,
		handle(0, 1): unknown, handle(0, -1): unknown, handle(1, 6): unknown, handle(1, 8): unknown, handle(7, 1): unknown,
		handle(2, 2): unknown, handle(3, 0): unknown, handle(3, 3): unknown, handle(4, 0): unknown, handle(-1, 0): unknown,
		handle(math.MinInt, 0): unknown, handle(0, math.MaxInt): unknown,
	} {
		wantStatus(t, m, h, want)
	}
}

// P12.1: what is armed, by nodes, rising, with the deadlines.
func TestArmed(t *testing.T) {
	m := model.New()
	var want []model.Timer
	for i := range 100 {
		node := i * 37 % 100
		do(t, m, start(handle(node, 1000-i), 5000+node), api.OK)
		want = append(want, model.Timer{Handle: handle(node, 1000-i), Deadline: 5000 + node})
	}
	slices.SortFunc(want, func(a, b model.Timer) int { return a.Handle.Node - b.Handle.Node })
	for range 5 {
		wantArmed(t, m, 5000, want...)
	}
	do(t, m, cancel(want[0].Handle, true), api.OK)
	do(t, m, cancel(want[50].Handle, true), api.OK)
	wantArmed(t, m, 5001, slices.Concat(want[1:50], want[51:])...)
}

// P12.1: the least deadline of what is armed alone; also 0, and beyond all clocks.
func TestLeast(t *testing.T) {
	m := told(t, start(handle(5, 0), math.MaxInt))
	wantArmed(t, m, math.MaxInt, model.Timer{Handle: handle(5, 0), Deadline: math.MaxInt})
	do(t, m, start(handle(4, 0), 8), api.OK)
	do(t, m, start(handle(6, 0), 3), api.OK)
	wantArmed(t, m, 3, model.Timer{Handle: handle(4, 0), Deadline: 8}, model.Timer{Handle: handle(5, 0), Deadline: math.MaxInt}, model.Timer{Handle: handle(6, 0), Deadline: 3})
	do(t, m, start(handle(7, 0), 0), api.OK)
	if got := m.Least(); got != 0 {
		t.Errorf("Least() = %d, want 0", got)
	}
	do(t, m, fire(handle(7, 0), 0), api.OK)
	do(t, m, rearm(handle(6, 0), handle(6, 1), 20), api.OK)
	wantArmed(t, m, 8, model.Timer{Handle: handle(4, 0), Deadline: 8}, model.Timer{Handle: handle(5, 0), Deadline: math.MaxInt}, model.Timer{Handle: handle(6, 1), Deadline: 20})
	for _, h := range []api.Handle{handle(4, 0), handle(5, 0), handle(6, 1)} {
		do(t, m, cancel(h, true), api.OK)
	}
	wantArmed(t, m, -1)
}

// P12.2, Tick: one more than the time, nothing else.
func TestTick(t *testing.T) {
	m := model.New()
	for now := range 50 {
		wantClock(t, m, now)
		for _, time := range []int{0, now - 1, now, now + 2, now + 3, math.MaxInt} {
			if time >= 0 && time != now+1 {
				do(t, m, tick(time), api.ErrState)
			}
		}
		do(t, m, tick(now+1), api.OK)
	}
	wantArmed(t, m, -1)
}

// P12.2, Start with OK: none of the node is armed, and each that was made has a
// lower generation, whatever became of it.
func TestStart(t *testing.T) {
	m := told(t, start(handle(1, 5), 3))
	wantArmed(t, m, 3, model.Timer{Handle: handle(1, 5), Deadline: 3})
	for _, gen := range []int{0, 4, 5, 6, math.MaxInt} {
		do(t, m, start(handle(1, gen), 3), api.ErrState)
	}
	do(t, m, start(handle(0, 5), 2), api.OK)
	do(t, m, start(handle(2, 0), 4), api.OK)
	do(t, m, cancel(handle(1, 5), true), api.OK)
	for _, gen := range []int{0, 4, 5} {
		do(t, m, start(handle(1, gen), 3), api.ErrState)
	}
	do(t, m, start(handle(1, 8), 0), api.OK)
	do(t, m, fire(handle(1, 8), 0), api.OK)
	for _, gen := range []int{5, 6, 7, 8} {
		do(t, m, start(handle(1, gen), 3), api.ErrState)
	}
	do(t, m, start(handle(1, 9), 7), api.OK)
	do(t, m, rearm(handle(1, 9), handle(1, 10), 7), api.OK)
	do(t, m, cancel(handle(1, 10), true), api.OK)
	for _, gen := range []int{5, 9, 10} {
		do(t, m, start(handle(1, gen), 3), api.ErrState)
	}
	do(t, m, start(handle(1, 11), 7), api.OK)
	wantArmed(t, m, 2,
		model.Timer{Handle: handle(0, 5), Deadline: 2}, model.Timer{Handle: handle(1, 11), Deadline: 7}, model.Timer{Handle: handle(2, 0), Deadline: 4})
	for _, gen := range []int{6, 7} {
		wantStatus(t, m, handle(1, gen), unknown)
	}
}

// P12.2, Start with OK: nodes, generations and deadlines at both ends; no
// deadline is too early, also one that is past.
func TestStartAtEnds(t *testing.T) {
	m := told(t, tick(1), tick(2), tick(3))
	do(t, m, start(handle(0, 0), 0), api.OK)
	do(t, m, start(handle(math.MaxInt, math.MaxInt), math.MaxInt), api.OK)
	do(t, m, start(handle(api.MaxNodes, api.MaxGen+1), api.MaxTime+1), api.OK)
	wantArmed(t, m, 0, model.Timer{Handle: handle(0, 0)},
		model.Timer{Handle: handle(api.MaxNodes, api.MaxGen+1), Deadline: api.MaxTime + 1},
		model.Timer{Handle: handle(math.MaxInt, math.MaxInt), Deadline: math.MaxInt})
	do(t, m, cancel(handle(math.MaxInt, math.MaxInt), true), api.OK)
	do(t, m, start(handle(math.MaxInt, math.MaxInt), 1), api.ErrState)
	do(t, m, start(handle(math.MaxInt, 0), 1), api.ErrState)
	do(t, m, cancel(handle(0, 0), true), api.OK)
	do(t, m, start(handle(0, 0), 1), api.ErrState)
	do(t, m, start(handle(0, 1), 1), api.OK)
}

// P12.2: Start, Rearm and Migrate with another Err than OK and ErrStale, and
// Start with ErrStale, always; nothing is changed.
func TestOtherErrors(t *testing.T) {
	m := told(t, start(handle(1, 5), 3), start(handle(0, 0), 3), cancel(handle(0, 0), true))
	for _, e := range []api.Errno{1, 2, 3, 5, 6, 7, 8, 9, 10, 11, math.MaxInt} {
		stays(t, m, startFails(e))
		for _, h := range []api.Handle{handle(1, 5), handle(1, 4), handle(1, 6), handle(0, 0), handle(7, 7), handle(-1, -1), handle(math.MinInt, math.MaxInt)} {
			stays(t, m, rearmFails(h, e))
			stays(t, m, migrate(h, e))
		}
	}
	stays(t, m, startFails(api.ErrStale))
	stays(t, model.New(), startFails(api.ErrStale))
}

// notArmed is a model in which of the node 1 one handle is armed, and handles
// that aren't.
func notArmed(t *testing.T) (*model.Model, []api.Handle) {
	t.Helper()
	m := told(t,
		start(handle(0, 0), 0), fire(handle(0, 0), 0), start(handle(2, 0), 0), cancel(handle(2, 0), true),
		start(handle(1, 5), 3), rearm(handle(1, 5), handle(1, 6), 4))
	return m, []api.Handle{
		handle(0, 0), handle(2, 0), handle(1, 5), handle(1, 7), handle(1, 0), handle(6, 1), handle(3, 6),
		handle(-1, 6), handle(1, -6), handle(math.MinInt, math.MinInt), handle(math.MaxInt, math.MaxInt),
	}
}

// P12.2, Cancel: with Yes just if the handle is armed, without just if it isn't.
func TestCancel(t *testing.T) {
	m, l := notArmed(t)
	for _, h := range l {
		do(t, m, cancel(h, true), api.ErrState)
		stays(t, m, cancel(h, false))
	}
	h := handle(1, 6)
	do(t, m, cancel(h, false), api.ErrState)
	do(t, m, cancel(h, true), api.OK)
	wantStatus(t, m, h, cancelled)
	wantArmed(t, m, -1)
	do(t, m, cancel(h, true), api.ErrState)
	stays(t, m, cancel(h, false))
}

// behind gives the handle of the next generation; of one that no handle can be
// behind, one that is near.
func behind(h api.Handle) api.Handle {
	if h.Gen == math.MaxInt {
		return h
	}
	return handle(max(h.Node, 0), max(h.Gen, -1)+1)
}

// P12.2, Rearm: with OK if the handle is armed, with ErrStale if it isn't.
func TestRearm(t *testing.T) {
	m, l := notArmed(t)
	for _, h := range l {
		do(t, m, rearm(h, behind(h), 9), api.ErrState)
		stays(t, m, rearmFails(h, api.ErrStale))
	}
	h, made := handle(1, 6), handle(1, 7)
	do(t, m, rearmFails(h, api.ErrStale), api.ErrState)
	do(t, m, rearm(h, made, 0), api.OK)
	wantStatus(t, m, h, superseded)
	wantStatus(t, m, made, armed)
	wantArmed(t, m, 0, model.Timer{Handle: made})
	do(t, m, rearm(h, made, 0), api.ErrState)
	do(t, m, rearm(h, handle(1, 8), 0), api.ErrState)
	stays(t, m, rearmFails(h, api.ErrStale))
	do(t, m, rearm(made, handle(1, 8), math.MaxInt), api.OK)
	wantArmed(t, m, math.MaxInt, model.Timer{Handle: handle(1, 8), Deadline: math.MaxInt})
}

// P12.2, Rearm with OK: New is of the same node, and of the next generation.
func TestRearmMakesTheNext(t *testing.T) {
	m := told(t, start(handle(1, 5), 3), start(handle(2, 5), 3), cancel(handle(2, 5), true), start(handle(4, math.MaxInt), 3))
	for _, made := range []api.Handle{
		handle(1, 5), handle(1, 4), handle(1, 7), handle(1, 0), handle(1, math.MaxInt), {},
		handle(0, 6), handle(2, 6), handle(3, 6), handle(5, 1), handle(6, 1), handle(math.MaxInt, 6),
	} {
		do(t, m, rearm(handle(1, 5), made, 9), api.ErrState)
	}
	do(t, m, rearm(handle(1, 5), handle(1, 6), 9), api.OK)
	for _, made := range []api.Handle{handle(4, 0), handle(4, math.MaxInt), handle(5, 0)} {
		do(t, m, rearm(handle(4, math.MaxInt), made, 9), api.ErrState)
	}
	wantStatus(t, m, handle(4, math.MaxInt), armed)
}

// P12.2, Migrate: with OK if the handle is armed, with ErrStale if it isn't;
// nothing is changed.
func TestMigrate(t *testing.T) {
	m, l := notArmed(t)
	for _, h := range l {
		do(t, m, migrate(h, api.OK), api.ErrState)
		stays(t, m, migrate(h, api.ErrStale))
	}
	h := handle(1, 6)
	do(t, m, migrate(h, api.ErrStale), api.ErrState)
	stays(t, m, migrate(h, api.OK))
	stays(t, m, migrate(h, api.OK))
	wantArmed(t, m, 4, model.Timer{Handle: h, Deadline: 4})
}

// P12.2, Fire: if the handle is armed, from its deadline on, to the time.
func TestFire(t *testing.T) {
	m, l := notArmed(t)
	for time := 1; time <= 6; time++ {
		do(t, m, tick(time), api.OK)
	}
	for _, h := range l {
		if h.Node >= 0 && h.Gen >= 0 {
			do(t, m, fire(h, 6), api.ErrState)
			do(t, m, fire(h, 0), api.ErrState)
		}
	}
	h := handle(1, 6)
	for _, stamp := range []int{0, 3, 7, 8, api.MaxTime, math.MaxInt} {
		do(t, m, fire(h, stamp), api.ErrState)
	}
	for stamp := 4; stamp <= 6; stamp++ {
		m, _ := notArmed(t)
		for time := 1; time <= 6; time++ {
			do(t, m, tick(time), api.OK)
		}
		do(t, m, fire(h, stamp), api.OK)
		wantStatus(t, m, h, fired)
		wantArmed(t, m, -1)
		do(t, m, fire(h, stamp), api.ErrState)
	}
}

// P12.2: whose event it is, and what a fire's user laid, is nothing to the model.
func TestWorkersAndUsers(t *testing.T) {
	h := handle(3, 4)
	m := model.New()
	for _, e := range []event.Event{start(h, 0), rearm(h, handle(3, 5), 0), migrate(handle(3, 5), api.OK), cancel(h, false), startFails(api.ErrFull)} {
		e.Worker = math.MaxInt
		do(t, m, e, api.OK)
	}
	e := fire(handle(3, 5), 0)
	e.Worker, e.User = 5000, math.MaxInt
	do(t, m, e, api.OK)
	wantStatus(t, m, handle(3, 5), fired)
}

// P12.2: ErrForm of what isn't right, of each Invoke and of each Return, also
// where it couldn't be (K2); and then nothing is changed.
func TestWrongForm(t *testing.T) {
	h := handle(1, 5)
	m := told(t, tick(1), start(h, 1))
	for _, e := range []event.Event{
		{}, {Kind: -1}, {Kind: 6}, {Kind: math.MinInt}, {Kind: math.MaxInt}, {Kind: 0, Op: event.Start},
		{Kind: event.Tick, Time: 2, Worker: 1}, {Kind: event.Tick, Time: 2, Op: event.Start}, {Kind: event.Tick, Time: -1}, {Kind: event.Tick, Time: 2, Err: 1},
		{Kind: event.Fire, Handle: h, Time: 1, Worker: -1}, {Kind: event.Fire, Handle: h, Time: 1, Op: event.Advance}, {Kind: event.Fire, Handle: h, Time: 1, Yes: true},
		{Kind: event.Fire, Handle: handle(-1, 0)}, {Kind: event.Fire, Handle: h, Time: -1}, {Kind: event.Fire, Handle: h, Time: 1, User: -1},
		{Kind: event.Point}, {Kind: event.Point, Op: event.Advance}, {Kind: event.Point, Op: event.Next}, {Kind: event.Point, Op: event.Peek}, {Kind: event.Point, Op: 8}, {Kind: event.Point, Op: -1},
		{Kind: event.Point, Op: event.Start, New: handle(2, 1), Time: -1}, {Kind: event.Point, Op: event.Start, New: handle(-2, 1)}, {Kind: event.Point, Op: event.Start, New: handle(2, -1)},
		{Kind: event.Point, Op: event.Start, New: handle(2, 1), Err: api.ErrFull}, {Kind: event.Point, Op: event.Start, Time: 1, Err: api.ErrFull}, {Kind: event.Point, Op: event.Start, Err: -1},
		{Kind: event.Point, Op: event.Start, Handle: h, New: handle(2, 1)}, {Kind: event.Point, Op: event.Start, New: handle(2, 1), Arg: 1}, {Kind: event.Point, Op: event.Start, New: handle(2, 1), User: 1},
		{Kind: event.Point, Op: event.Cancel, Handle: h, Yes: true, Err: 1}, {Kind: event.Point, Op: event.Cancel, Handle: h, Yes: true, Time: 1}, {Kind: event.Point, Op: event.Cancel, Handle: h, Yes: true, Worker: -1},
		{Kind: event.Point, Op: event.Rearm, Handle: h, New: handle(1, 6), Yes: true}, {Kind: event.Point, Op: event.Rearm, Handle: h, New: handle(1, 6), Time: -1}, {Kind: event.Point, Op: event.Rearm, Handle: handle(1, -1), New: handle(1, -2)},
		{Kind: event.Point, Op: event.Rearm, Handle: handle(1, 4), New: handle(1, 6), Err: api.ErrStale}, {Kind: event.Point, Op: event.Rearm, Handle: h, Time: 1, Err: api.ErrFull},
		{Kind: event.Point, Op: event.Migrate, Handle: h, New: handle(1, 6)}, {Kind: event.Point, Op: event.Migrate, Handle: h, Time: 1}, {Kind: event.Point, Op: event.Migrate, Handle: h, Arg: 1},
	} {
		do(t, m, e, api.ErrForm)
	}
	for op := -1; op <= 8; op++ {
		for _, kind := range []int{event.Invoke, event.Return} {
			for _, x := range []event.Event{{}, {Handle: h}, {Handle: h, Yes: true}, {Handle: h, Time: 1}, {Time: 1}, {New: handle(1, 6)}, {Yes: true}, {Err: api.ErrFull}, {Worker: 1}, {Time: -1}} {
				x.Kind, x.Op = kind, op
				do(t, m, x, api.ErrForm)
			}
		}
	}
	wantClock(t, m, 1)
	wantArmed(t, m, 1, model.Timer{Handle: h, Deadline: 1})
}

// P12.3: what was cancelled, superseded or fired stays so, whatever comes behind
// it, and never fires again.
func TestEndsStay(t *testing.T) {
	m, _ := notArmed(t)
	ends := map[api.Handle]int{handle(0, 0): fired, handle(2, 0): cancelled, handle(1, 5): superseded}
	for time := 1; time <= 20; time++ {
		do(t, m, tick(time), api.OK)
		for h, want := range ends {
			do(t, m, fire(h, time), api.ErrState)
			do(t, m, cancel(h, true), api.ErrState)
			do(t, m, rearm(h, handle(h.Node, h.Gen+1), 0), api.ErrState)
			do(t, m, start(h, 0), api.ErrState)
			stays(t, m, cancel(h, false))
			wantStatus(t, m, h, want)
		}
		for node := range 3 {
			h := handle(node, 10*time)
			if node == 1 && time == 1 {
				do(t, m, cancel(handle(1, 6), true), api.OK)
				ends[handle(1, 6)] = cancelled
			}
			do(t, m, start(h, time), api.OK)
			do(t, m, rearm(h, handle(node, 10*time+1), time), api.OK)
			do(t, m, fire(handle(node, 10*time+1), time), api.OK)
			ends[h], ends[handle(node, 10*time+1)] = superseded, fired
		}
	}
	for h, want := range ends {
		wantStatus(t, m, h, want)
	}
}

// P2 (K5): what Armed answers is new memory, which neither the model nor another
// answer shares, not even behind its end.
func TestAnswersAreNotShared(t *testing.T) {
	want := []model.Timer{{handle(0, 1), 7}, {handle(1, 1), 8}, {handle(2, 1), 6}}
	m := told(t, start(handle(2, 1), 6), start(handle(0, 1), 7), start(handle(1, 1), 8))
	first, second := m.Armed(), m.Armed()
	whole := first[:cap(first)]
	for i := range whole {
		whole[i] = model.Timer{Handle: handle(9, 9), Deadline: -9}
	}
	if !slices.Equal(second, want) {
		t.Errorf("an answer is %v then, want %v", second, want)
	}
	wantArmed(t, m, 6, want...)
	wantStatus(t, m, handle(9, 9), unknown)
}

// P2 (K6): each model has its own timers and its own time.
func TestModelsAreApart(t *testing.T) {
	h := handle(1, 1)
	a, b := model.New(), model.New()
	do(t, a, start(h, 2), api.OK)
	do(t, a, tick(1), api.OK)
	wantStatus(t, b, h, unknown)
	wantClock(t, b, 0)
	wantArmed(t, b, -1)
	do(t, b, start(h, 3), api.OK)
	do(t, b, cancel(h, true), api.OK)
	wantArmed(t, a, 2, model.Timer{Handle: h, Deadline: 2})
	wantArmed(t, model.New(), -1)
}
