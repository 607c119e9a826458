package judge_test

import (
	"math"
	"testing"
	"time"

	"knell/api"
	"knell/event"
	"knell/judge"
)

// The statuses, as the chapters tell their numbers.
const (
	unknown    = 0
	armed      = 1
	fired      = 2
	cancelled  = 3
	superseded = 4
)

func handle(node, gen int) api.Handle { return api.Handle{Node: node, Gen: gen} }

func tick(time int) event.Event { return event.Event{Kind: event.Tick, Time: time} }

// begin is the Invoke of an operation that has no fields of its own.
func begin(worker, op int) event.Event {
	return event.Event{Kind: event.Invoke, Worker: worker, Op: op}
}

func beginStart(worker, ticks int) event.Event {
	return event.Event{Kind: event.Invoke, Worker: worker, Op: event.Start, Time: ticks}
}

// beginOf is the Invoke of an operation of a handle.
func beginOf(worker, op int, h api.Handle) event.Event {
	return event.Event{Kind: event.Invoke, Worker: worker, Op: op, Handle: h}
}

func beginRearm(worker int, h api.Handle, ticks int) event.Event {
	return event.Event{Kind: event.Invoke, Worker: worker, Op: event.Rearm, Handle: h, Time: ticks}
}

func start(worker int, made api.Handle, deadline int) event.Event {
	return event.Event{Kind: event.Point, Worker: worker, Op: event.Start, New: made, Time: deadline}
}

func startFails(worker int, e api.Errno) event.Event {
	return event.Event{Kind: event.Point, Worker: worker, Op: event.Start, Err: e}
}

func cancel(worker int, h api.Handle, yes bool) event.Event {
	return event.Event{Kind: event.Point, Worker: worker, Op: event.Cancel, Handle: h, Yes: yes}
}

func rearm(worker int, h, made api.Handle, deadline int) event.Event {
	return event.Event{Kind: event.Point, Worker: worker, Op: event.Rearm, Handle: h, New: made, Time: deadline}
}

func rearmFails(worker int, h api.Handle, e api.Errno) event.Event {
	return event.Event{Kind: event.Point, Worker: worker, Op: event.Rearm, Handle: h, Err: e}
}

func migrate(worker int, h api.Handle, e api.Errno) event.Event {
	return event.Event{Kind: event.Point, Worker: worker, Op: event.Migrate, Handle: h, Err: e}
}

func fire(worker int, h api.Handle, stamp int) event.Event {
	return event.Event{Kind: event.Fire, Worker: worker, Handle: h, Time: stamp}
}

// end is the Return of an operation that has no fields of its own.
func end(worker, op int) event.Event {
	return event.Event{Kind: event.Return, Worker: worker, Op: op}
}

// endMade is the Return of a Start or a Rearm that made a handle.
func endMade(worker, op int, made api.Handle) event.Event {
	return event.Event{Kind: event.Return, Worker: worker, Op: op, New: made}
}

func endFails(worker, op int, e api.Errno) event.Event {
	return event.Event{Kind: event.Return, Worker: worker, Op: op, Err: e}
}

func endCancel(worker int, yes bool) event.Event {
	return event.Event{Kind: event.Return, Worker: worker, Op: event.Cancel, Yes: yes}
}

// endTime is the Return of a Next or a Peek.
func endTime(worker, op, time int) event.Event {
	return event.Event{Kind: event.Return, Worker: worker, Op: op, Time: time}
}

// newBench gives a bench.
func newBench(t *testing.T, workers int) *judge.Bench {
	t.Helper()
	b, e := judge.New(workers)
	if e != api.OK {
		t.Fatalf("New(%d) = %d", workers, e)
	}
	return b
}

// look is all that a bench tells of four workers and some handles.
type look struct {
	busy   [4]int
	quiet  bool
	status [6]int
}

func lookAt(b *judge.Bench, e event.Event) look {
	l := look{quiet: b.Quiet()}
	for i := range l.busy {
		l.busy[i] = b.Busy(i)
	}
	of := []api.Handle{handle(0, 1), handle(0, 2), handle(0, 3), handle(1, 1), e.Handle, e.New}
	for i, h := range of {
		l.status[i] = b.Status(h)
	}
	return l
}

// hear lets an event be heard that must be answered so. One that is answered
// with an error changes nothing (P13.1, K4).
func hear(t *testing.T, b *judge.Bench, e event.Event, want api.Errno) {
	t.Helper()
	before := lookAt(b, e)
	if got := b.Hear(e); got != want {
		t.Fatalf("Hear(%+v) = %d, want %d", e, got, want)
	}
	if after := lookAt(b, e); want != api.OK && after != before {
		t.Fatalf("Hear(%+v) makes %+v of %+v", e, after, before)
	}
}

// heard gives a bench of so many workers that has heard events, each of which
// can be.
func heard(t *testing.T, workers int, events ...event.Event) *judge.Bench {
	t.Helper()
	b := newBench(t, workers)
	for _, e := range events {
		hear(t, b, e, api.OK)
	}
	return b
}

// refuses holds that events can't be now, neither one nor behind the others.
func refuses(t *testing.T, b *judge.Bench, events ...event.Event) {
	t.Helper()
	for _, e := range events {
		hear(t, b, e, api.ErrState)
	}
}

// takes holds that an event can be, behind a history in which each can be.
func takes(t *testing.T, l []event.Event, e event.Event) {
	t.Helper()
	hear(t, heard(t, 4, l...), e, api.OK)
}

func wantBusy(t *testing.T, b *judge.Bench, worker, want int) {
	t.Helper()
	if got := b.Busy(worker); got != want {
		t.Errorf("Busy(%d) = %d, want %d", worker, got, want)
	}
}

func wantStatus(t *testing.T, b *judge.Bench, h api.Handle, want int) {
	t.Helper()
	if got := b.Status(h); got != want {
		t.Errorf("Status(%v) = %d, want %d", h, got, want)
	}
}

// started is a history in which the worker 0 has started the handle 0.1, and
// the time is 2; it is due at 3.
func started() []event.Event {
	h := handle(0, 1)
	return []event.Event{beginStart(0, 3), start(0, h, 3), endMade(0, event.Start, h), tick(1), tick(2)}
}

// The chapter's example: a Return of what was never begun.
func TestExample(t *testing.T) {
	for op := event.Start; op <= event.Peek; op++ {
		refuses(t, newBench(t, 1), end(0, op))
		if at, e := judge.Judge([]event.Event{end(0, op)}, 1); at != 0 || e != api.ErrState {
			t.Error(op, at, e)
		}
	}
}

// P13.1, New: there are 1 to 64 workers, and nothing was heard.
func TestNew(t *testing.T) {
	for _, workers := range []int{math.MinInt, -64, -1, 0, 65, 66, 128, math.MaxInt} {
		if b, e := judge.New(workers); b != nil || e != api.ErrArg {
			t.Errorf("New(%d) = %v, %d", workers, b, e)
		}
	}
	for workers := 1; workers <= 64; workers++ {
		b := newBench(t, workers)
		if !b.Quiet() {
			t.Errorf("New(%d) is in something", workers)
		}
		for i := -1; i <= workers; i++ {
			wantBusy(t, b, i, 0)
		}
		wantStatus(t, b, handle(0, 0), unknown)
		hear(t, b, begin(workers-1, event.Next), api.OK)
		hear(t, b, tick(1), api.OK)
	}
}

// P13.1, Hear: what isn't right is told ahead of what can't be, and so is who
// isn't a worker.
func TestForm(t *testing.T) {
	h := handle(0, 1)
	b := heard(t, 2, beginStart(0, 3), tick(1))
	for _, e := range []event.Event{
		{},
		{Kind: 6},
		{Kind: event.Tick, Time: -1},
		{Kind: event.Tick, Time: 2, Worker: 1},
		{Kind: event.Tick, Time: 2, Op: event.Start},
		begin(0, 0),
		begin(1, 8),
		begin(-1, event.Next),
		begin(math.MinInt, event.Next),
		{Kind: event.Invoke, Worker: 1, Op: event.Advance, Time: 1},
		{Kind: event.Point, Worker: 0, Op: event.Advance},
		start(0, handle(-1, 1), 3),
		start(0, h, -1),
		{Kind: event.Point, Worker: 0, Op: event.Start, New: h, Time: 3, Err: api.ErrFull},
		endTime(0, event.Next, -2),
		endCancel(-1, true),
		startFails(0, -1),
	} {
		hear(t, b, e, api.ErrForm)
	}
	for _, worker := range []int{2, 3, 64, math.MaxInt} {
		for _, e := range []event.Event{
			begin(worker, event.Next), beginStart(worker, 1), start(worker, h, 4), startFails(worker, api.ErrFull), cancel(worker, h, false),
			fire(worker, h, 1), end(worker, event.Advance), endMade(worker, event.Start, h),
		} {
			hear(t, b, e, api.ErrForm)
		}
	}
	hear(t, b, tick(2), api.OK)
	hear(t, heard(t, 64), begin(63, event.Next), api.OK)
	hear(t, heard(t, 64), begin(64, event.Next), api.ErrForm)
}

// P13.1, Tick: as the model has it, whatever workers are in.
func TestTick(t *testing.T) {
	b := newBench(t, 2)
	refuses(t, b, tick(0), tick(2), tick(math.MaxInt))
	hear(t, b, tick(1), api.OK)
	hear(t, b, beginStart(1, 1), api.OK)
	refuses(t, b, tick(0), tick(1), tick(3))
	hear(t, b, tick(2), api.OK)
	hear(t, b, start(1, handle(0, 1), 2), api.OK)
	hear(t, b, tick(3), api.OK)
}

// P13.1, Invoke: each worker is in one operation at once; what is asked may be
// any numbers.
func TestInvoke(t *testing.T) {
	for op := event.Start; op <= event.Peek; op++ {
		b := heard(t, 2, begin(0, op))
		for other := event.Start; other <= event.Peek; other++ {
			refuses(t, b, begin(0, other))
		}
		wantBusy(t, b, 0, op)
		hear(t, b, begin(1, op), api.OK)
		refuses(t, b, begin(1, op))
		wantBusy(t, b, 1, op)
	}
	for _, n := range []int{math.MinInt, -1, math.MaxInt} {
		hear(t, newBench(t, 1), event.Event{Kind: event.Invoke, Op: event.Start, Time: n, Arg: n, User: n}, api.OK)
		hear(t, newBench(t, 1), event.Event{Kind: event.Invoke, Op: event.Migrate, Handle: handle(n, n), Arg: n}, api.OK)
		hear(t, newBench(t, 1), beginRearm(0, handle(n, n), n), api.OK)
	}
}

// pointsOf gives for each operation that takes effect its Invoke by the worker
// 0, and Points of it that can be behind started.
func pointsOf() map[event.Event][]event.Event {
	h, next := handle(0, 1), handle(0, 2)
	return map[event.Event][]event.Event{
		beginStart(0, 4):                {start(0, handle(1, 1), 6), startFails(0, api.ErrFull), startFails(0, api.ErrStale)},
		beginOf(0, event.Cancel, h):     {cancel(0, h, true)},
		beginOf(0, event.Cancel, next):  {cancel(0, next, false)},
		beginRearm(0, h, 4):             {rearm(0, h, next, 6), rearmFails(0, h, api.ErrExhausted)},
		beginRearm(0, next, 4):          {rearmFails(0, next, api.ErrStale)},
		beginOf(0, event.Migrate, h):    {migrate(0, h, api.OK), migrate(0, h, api.ErrArg)},
		beginOf(0, event.Migrate, next): {migrate(0, next, api.ErrStale)},
	}
}

// P13.1, Point: just what the worker is in takes effect, and once.
func TestPoint(t *testing.T) {
	for invoke, points := range pointsOf() {
		for _, p := range points {
			b := heard(t, 4, started()...)
			refuses(t, b, p)
			other := invoke
			other.Worker = 1
			hear(t, b, other, api.OK)
			refuses(t, b, p)
			hear(t, b, invoke, api.OK)
			for _, others := range pointsOf() {
				for _, q := range others {
					if q.Op != p.Op || q.Handle != p.Handle {
						refuses(t, b, q)
					}
				}
			}
			hear(t, b, p, api.OK)
			wantBusy(t, b, 0, p.Op)
			for _, q := range points {
				refuses(t, b, q)
			}
			refuses(t, b, start(0, handle(2, 1), 6), startFails(0, api.ErrFull), cancel(0, handle(5, 5), false), migrate(0, p.Handle, api.ErrArg))
		}
	}
	for _, op := range []int{event.Advance, event.Next, event.Peek} {
		refuses(t, heard(t, 1, begin(0, op)), start(0, handle(0, 1), 0), startFails(0, api.ErrFull), cancel(0, handle(0, 0), false), migrate(0, handle(0, 0), api.ErrArg))
	}
}

// P13.1, Point: the Handle is that of the Invoke, in its node as in its
// generation, whatever the Err.
func TestPointHandle(t *testing.T) {
	h := handle(0, 1)
	for _, not := range []api.Handle{handle(0, 2), handle(0, 0), handle(1, 1), handle(-1, -1), {}} {
		b := heard(t, 4, append(started(), beginOf(0, event.Cancel, not), beginRearm(1, not, 4), beginOf(2, event.Migrate, not))...)
		refuses(t, b, cancel(0, h, true), rearm(1, h, handle(0, 2), 6), rearmFails(1, h, api.ErrExhausted), migrate(2, h, api.OK), migrate(2, h, api.ErrArg))
		hear(t, b, cancel(0, not, false), api.OK)
		hear(t, b, rearmFails(1, not, api.ErrStale), api.OK)
		hear(t, b, migrate(2, not, api.ErrStale), api.OK)
	}
}

// P13.1, Point: what the model doesn't take can't be, and then the operation's
// Point is still to come.
func TestPointByModel(t *testing.T) {
	h := handle(0, 1)
	b := heard(t, 4, append(started(), beginOf(0, event.Cancel, h), beginRearm(1, h, 4), beginOf(2, event.Migrate, h), beginStart(3, 0))...)
	refuses(t, b, cancel(0, h, false), rearm(1, h, handle(0, 3), 6), rearm(1, h, handle(1, 2), 6), rearmFails(1, h, api.ErrStale), migrate(2, h, api.ErrStale))
	refuses(t, b, start(3, h, 2), start(3, handle(0, 2), 2))
	hear(t, b, cancel(0, h, true), api.OK)
	wantStatus(t, b, h, cancelled)
	refuses(t, b, rearm(1, h, handle(0, 2), 6), migrate(2, h, api.OK), start(3, h, 2), start(3, handle(0, 0), 2))
	hear(t, b, rearmFails(1, h, api.ErrStale), api.OK)
	hear(t, b, migrate(2, h, api.ErrStale), api.OK)
	hear(t, b, start(3, handle(0, 2), 2), api.OK)
	wantStatus(t, b, handle(0, 2), armed)
}

// P13.1, Point: a deadline is reckoned from some time between the Invoke and
// the Point; of a Start as of a Rearm.
func TestDeadlines(t *testing.T) {
	h, next := handle(0, 1), handle(0, 2)
	for _, since := range []int{0, 1, 3} {
		for _, ticks := range []int{-9, -2, -1, 0, 1, 2, 5, 1 << 40} {
			for _, waited := range []int{0, 1, 2} {
				history := []event.Event{beginStart(2, 50), start(2, h, 50), endMade(2, event.Start, h)}
				for now := range since {
					history = append(history, tick(now+1))
				}
				history = append(history, beginStart(0, ticks), beginRearm(1, h, ticks))
				for now := range waited {
					history = append(history, tick(since+now+1))
				}
				for over := -3; over <= waited+3; over++ {
					deadline := since + ticks + over
					can := 0 <= over && over <= waited
					for _, p := range []event.Event{start(0, handle(1, 1), deadline), rearm(1, h, next, deadline)} {
						switch {
						case deadline < 0:
							hear(t, heard(t, 4, history...), p, api.ErrForm)
						case can:
							takes(t, history, p)
						default:
							refuses(t, heard(t, 4, history...), p)
						}
					}
				}
			}
		}
	}
}

// P13.1, Point: sums of times that no int holds are not taken for others.
func TestFarDeadlines(t *testing.T) {
	h := handle(0, 1)
	far := []int{0, 1, 2, 3, 4, api.MaxTime, math.MaxInt - 3, math.MaxInt - 2, math.MaxInt - 1, math.MaxInt}
	history := func(ticks int) []event.Event {
		return append(started(), beginStart(1, ticks), beginRearm(2, h, ticks), tick(3))
	}
	for _, ticks := range []int{math.MinInt, math.MinInt + 1, math.MinInt + 2, math.MinInt + 3, -math.MaxInt / 2} {
		b := heard(t, 4, history(ticks)...)
		for _, deadline := range far {
			refuses(t, b, start(1, handle(1, 1), deadline), rearm(2, h, handle(0, 2), deadline))
		}
	}
	// at the Invoke the time was 2, now it is 3
	for _, ticks := range []int{math.MaxInt - 3, math.MaxInt - 2, math.MaxInt - 1, math.MaxInt} {
		for _, deadline := range far {
			over := deadline - ticks // both are 0 or more
			b := heard(t, 4, history(ticks)...)
			for _, p := range []event.Event{start(1, handle(1, 1), deadline), rearm(2, h, handle(0, 2), deadline)} {
				if 2 <= over && over <= 3 {
					hear(t, b, p, api.OK)
				} else {
					refuses(t, b, p)
				}
			}
		}
	}
}

// P13.1, Point: of what fails no deadline is asked.
func TestNoDeadline(t *testing.T) {
	h := handle(0, 1)
	for _, ticks := range []int{math.MinInt, -1, 0, 9, math.MaxInt} {
		takes(t, append(started(), beginStart(0, ticks)), startFails(0, api.ErrArg))
		takes(t, append(started(), beginRearm(0, h, ticks)), rearmFails(0, h, api.ErrRange))
		takes(t, append(started(), beginRearm(0, handle(7, 7), ticks)), rearmFails(0, handle(7, 7), api.ErrStale))
	}
}

// P13.1, Fire: just within an Advance of that worker.
func TestFire(t *testing.T) {
	h := handle(0, 1)
	history := append(started(), tick(3))
	refuses(t, heard(t, 4, history...), fire(0, h, 3))
	for op := event.Start; op <= event.Peek; op++ {
		b := heard(t, 4, append(history, begin(1, op))...)
		refuses(t, b, fire(0, h, 3))
		if op != event.Advance {
			refuses(t, b, fire(1, h, 3))
			continue
		}
		hear(t, b, fire(1, h, 3), api.OK)
		wantStatus(t, b, h, fired)
		wantBusy(t, b, 1, event.Advance)
		refuses(t, b, fire(1, h, 3))
	}
	b := heard(t, 4, append(history, begin(1, event.Advance), end(1, event.Advance))...)
	refuses(t, b, fire(1, h, 3))
	withUser := fire(1, h, 3)
	withUser.User = 9
	takes(t, append(history, begin(1, event.Advance)), withUser)
}

// P13.1, Fire: an Advance may let many fire.
func TestManyFires(t *testing.T) {
	b := newBench(t, 1)
	for node := range 5 {
		hear(t, b, beginStart(0, 0), api.OK)
		hear(t, b, start(0, handle(node, 1), 0), api.OK)
		hear(t, b, endMade(0, event.Start, handle(node, 1)), api.OK)
	}
	hear(t, b, begin(0, event.Advance), api.OK)
	for node := range 5 {
		hear(t, b, fire(0, handle(node, 1), 0), api.OK)
		wantStatus(t, b, handle(node, 1), fired)
	}
	hear(t, b, end(0, event.Advance), api.OK)
}

// P13.1, Fire: its Time is neither ahead of the Advance's Invoke, nor of the
// deadline, nor behind the clock.
func TestFireTime(t *testing.T) {
	h := handle(0, 1)
	for began := range 6 {
		for deadline := range 6 {
			for now := began; now < 6; now++ {
				history := []event.Event{beginStart(0, deadline), start(0, h, deadline), endMade(0, event.Start, h)}
				for time := range now + 1 {
					if time > 0 {
						history = append(history, tick(time))
					}
					if time == began {
						history = append(history, begin(0, event.Advance))
					}
				}
				for stamp := range 8 {
					if began <= stamp && deadline <= stamp && stamp <= now {
						takes(t, history, fire(0, h, stamp))
					} else {
						refuses(t, heard(t, 4, history...), fire(0, h, stamp))
					}
				}
			}
		}
	}
}

// P13.1, Return: what takes effect returns what its Point told, and not ahead
// of it.
func TestReturn(t *testing.T) {
	h, next, other := handle(0, 1), handle(0, 2), handle(1, 1)
	for _, x := range []struct {
		invoke, point, end event.Event
		wrong              []event.Event
	}{
		{beginStart(0, 4), start(0, other, 6), endMade(0, event.Start, other),
			[]event.Event{endMade(0, event.Start, handle(1, 2)), endMade(0, event.Start, handle(2, 1)), endFails(0, event.Start, api.ErrFull)}},
		{beginStart(0, 4), startFails(0, api.ErrFull), endFails(0, event.Start, api.ErrFull),
			[]event.Event{endMade(0, event.Start, other), endMade(0, event.Start, handle(0, 0)), endFails(0, event.Start, api.ErrArg)}},
		{beginOf(0, event.Cancel, h), cancel(0, h, true), endCancel(0, true), []event.Event{endCancel(0, false)}},
		{beginOf(0, event.Cancel, next), cancel(0, next, false), endCancel(0, false), []event.Event{endCancel(0, true)}},
		{beginRearm(0, h, 4), rearm(0, h, next, 6), endMade(0, event.Rearm, next),
			[]event.Event{endMade(0, event.Rearm, h), endMade(0, event.Rearm, handle(0, 3)), endFails(0, event.Rearm, api.ErrStale)}},
		{beginRearm(0, next, 4), rearmFails(0, next, api.ErrStale), endFails(0, event.Rearm, api.ErrStale),
			[]event.Event{endMade(0, event.Rearm, handle(0, 3)), endMade(0, event.Rearm, handle(0, 0)), endFails(0, event.Rearm, api.ErrRange)}},
		{beginOf(0, event.Migrate, h), migrate(0, h, api.OK), end(0, event.Migrate), []event.Event{endFails(0, event.Migrate, api.ErrStale)}},
		{beginOf(0, event.Migrate, next), migrate(0, next, api.ErrStale), endFails(0, event.Migrate, api.ErrStale),
			[]event.Event{end(0, event.Migrate), endFails(0, event.Migrate, api.ErrFull)}},
	} {
		b := heard(t, 4, append(started(), x.invoke)...)
		refuses(t, b, x.end)
		refuses(t, b, x.wrong...)
		hear(t, b, x.point, api.OK)
		refuses(t, b, x.wrong...)
		for op := event.Start; op <= event.Peek; op++ {
			if op != x.invoke.Op {
				refuses(t, b, end(0, op))
			}
		}
		by1 := x.end
		by1.Worker = 1
		refuses(t, b, by1)
		hear(t, b, x.end, api.OK)
		wantBusy(t, b, 0, 0)
		refuses(t, b, x.end, x.point)
		hear(t, b, x.invoke, api.OK)
		refuses(t, b, x.end) // the Point of what was before is another one's
	}
}

// P13.1, Return: of the others nothing is asked but that they were begun.
func TestReturnOfOthers(t *testing.T) {
	for _, op := range []int{event.Advance, event.Next, event.Peek} {
		for _, time := range []int{-1, 0, 1, api.MaxTime, math.MaxInt} {
			back := endTime(0, op, time)
			if op == event.Advance {
				back.Time = 0
			}
			b := newBench(t, 2)
			refuses(t, b, back)
			hear(t, b, begin(0, op), api.OK)
			for other := event.Start; other <= event.Peek; other++ {
				if other != op {
					refuses(t, b, end(0, other))
				}
			}
			refuses(t, b, end(1, op))
			hear(t, b, back, api.OK)
			refuses(t, b, back)
			if !b.Quiet() {
				t.Error(op, time)
			}
		}
	}
}

// P13.1: the operations of several workers are under way at once; of two that
// cancel one is told yes, and a Rearm behind them is stale.
func TestAtOnce(t *testing.T) {
	h := handle(0, 1)
	b := heard(t, 4, append(started(), beginOf(0, event.Cancel, h), beginOf(1, event.Cancel, h), beginRearm(2, h, 3))...)
	hear(t, b, cancel(1, h, true), api.OK)
	refuses(t, b, cancel(0, h, true), rearm(2, h, handle(0, 2), 5))
	hear(t, b, cancel(0, h, false), api.OK)
	hear(t, b, endCancel(0, false), api.OK)
	hear(t, b, rearmFails(2, h, api.ErrStale), api.OK)
	hear(t, b, endCancel(1, true), api.OK)
	hear(t, b, endFails(2, event.Rearm, api.ErrStale), api.OK)
}

// P13.2, Busy and Quiet: behind each Invoke, Point and Return.
func TestBusy(t *testing.T) {
	b := newBench(t, 2)
	for op := event.Start; op <= event.Peek; op++ {
		hear(t, b, begin(1, op), api.OK)
		if b.Quiet() {
			t.Error(op)
		}
		wantBusy(t, b, 1, op)
		wantBusy(t, b, 0, 0)
		hear(t, b, begin(0, event.Next), api.OK)
		wantBusy(t, b, 0, event.Next)
		wantBusy(t, b, 1, op)
		hear(t, b, end(0, event.Next), api.OK)
		wantBusy(t, b, 0, 0)
		back := end(1, op)
		switch op {
		case event.Start:
			hear(t, b, startFails(1, api.ErrFull), api.OK)
			back = endFails(1, op, api.ErrFull)
		case event.Cancel:
			hear(t, b, cancel(1, handle(0, 0), false), api.OK)
		case event.Rearm:
			hear(t, b, rearmFails(1, handle(0, 0), api.ErrFull), api.OK)
			back = endFails(1, op, api.ErrFull)
		case event.Migrate:
			hear(t, b, migrate(1, handle(0, 0), api.ErrFull), api.OK)
			back = endFails(1, op, api.ErrFull)
		}
		if b.Quiet() {
			t.Error(op)
		}
		hear(t, b, back, api.OK)
		wantBusy(t, b, 1, 0)
		if !b.Quiet() {
			t.Error(op)
		}
	}
	for _, none := range []int{math.MinInt, -1, 2, 3, 64, math.MaxInt} {
		wantBusy(t, b, none, 0)
	}
}

// P13.2, Status: the model's.
func TestStatus(t *testing.T) {
	h := func(gen int) api.Handle { return handle(0, gen) }
	b := heard(t, 2, started()...)
	wantStatus(t, b, h(1), armed)
	hear(t, b, beginRearm(0, h(1), 1), api.OK)
	hear(t, b, rearm(0, h(1), h(2), 3), api.OK)
	wantStatus(t, b, h(1), superseded)
	wantStatus(t, b, h(2), armed)
	hear(t, b, begin(1, event.Advance), api.OK)
	hear(t, b, tick(3), api.OK)
	hear(t, b, fire(1, h(2), 3), api.OK)
	wantStatus(t, b, h(2), fired)
	hear(t, b, endMade(0, event.Rearm, h(2)), api.OK)
	hear(t, b, beginStart(0, 1), api.OK)
	wantStatus(t, b, h(3), unknown)
	hear(t, b, start(0, h(3), 4), api.OK)
	hear(t, b, endMade(0, event.Start, h(3)), api.OK)
	hear(t, b, beginOf(0, event.Cancel, h(3)), api.OK)
	wantStatus(t, b, h(3), armed)
	hear(t, b, cancel(0, h(3), true), api.OK)
	wantStatus(t, b, h(3), cancelled)
	for _, none := range []api.Handle{h(0), h(4), h(-1), handle(1, 1), handle(math.MinInt, math.MaxInt)} {
		wantStatus(t, b, none, unknown)
	}
}

// P13.3: New's error, and -1, whatever the list.
func TestJudgeOfNoBench(t *testing.T) {
	for _, l := range [][]event.Event{nil, {}, {tick(1)}, {{}}} {
		for _, workers := range []int{math.MinInt, -1, 0, 65, math.MaxInt} {
			if at, e := judge.Judge(l, workers); at != -1 || e != api.ErrArg {
				t.Errorf("Judge(%v, %d) = %d, %d", l, workers, at, e)
			}
		}
	}
}

// P13.3: the first event that can't be, and its error; -1 and OK, if each can.
func TestJudge(t *testing.T) {
	l := started()
	for _, none := range [][]event.Event{nil, {}, l} {
		if at, e := judge.Judge(none, 1); at != -1 || e != api.OK {
			t.Errorf("Judge(%v) = %d, %d", none, at, e)
		}
	}
	for i := range len(l) + 1 {
		for _, x := range []struct {
			wrong event.Event
			code  api.Errno
		}{{tick(7), api.ErrState}, {event.Event{}, api.ErrForm}, {begin(1, event.Next), api.ErrForm}} {
			bad := append(append(append([]event.Event{}, l[:i]...), x.wrong), l[i:]...)
			bad = append(bad, event.Event{}, tick(9)) // further ones aren't told
			if at, e := judge.Judge(bad, 1); at != i || e != x.code {
				t.Errorf("Judge(%v) = %d, %d, want %d, %d", bad, at, e, i, x.code)
			}
		}
	}
	if at, e := judge.Judge([]event.Event{begin(63, event.Peek)}, 64); at != -1 || e != api.OK {
		t.Error(at, e)
	}
}

// P13.3, K6: each Judge has a bench of its own, and benches know nothing of each
// other; the list isn't changed (K5).
func TestApart(t *testing.T) {
	l := started()
	for range 2 {
		if at, e := judge.Judge(l, 1); at != -1 || e != api.OK {
			t.Fatal(at, e)
		}
	}
	for i, e := range started() {
		if l[i] != e {
			t.Error(i)
		}
	}
	a, b := heard(t, 1, l...), newBench(t, 1)
	wantStatus(t, b, handle(0, 1), unknown)
	hear(t, a, begin(0, event.Next), api.OK)
	if !b.Quiet() || a.Quiet() {
		t.Error("one bench hears what is another one's")
	}
	refuses(t, b, tick(3))
	hear(t, b, tick(1), api.OK)
}

// P1: a long history with many handles is judged in reasonable time.
func TestLongHistory(t *testing.T) {
	const many = 200_000
	var l []event.Event
	for i := range many {
		w := i % 64
		h := handle(i/2, 1)
		l = append(l, beginStart(w, 1), start(w, h, i/1000+1), endMade(w, event.Start, h))
		if i%2 == 1 {
			h = handle(i/2, 2)
			l = l[:len(l)-3]
			l = append(l, beginRearm(w, handle(i/2, 1), 1), rearm(w, handle(i/2, 1), h, i/1000+1), endMade(w, event.Rearm, h))
		}
		if i%1000 == 999 {
			l = append(l, tick(i/1000+1))
		}
	}
	began := time.Now()
	if at, e := judge.Judge(l, 64); at != -1 || e != api.OK {
		t.Fatal(at, e, l[at])
	}
	if took := time.Since(began); took > 20*time.Second {
		t.Error(took)
	}
}
