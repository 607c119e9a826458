package event_test

import (
	"math"
	"slices"
	"testing"

	"knell/api"
	"knell/event"
)

// story is a history in which each worker, but 2, has something, and nobody a
// tick.
func story() []event.Event {
	h := api.Handle{Node: 0, Gen: 1}
	return []event.Event{
		{Kind: event.Tick, Time: 1},
		{Kind: event.Invoke, Worker: 1, Op: event.Start, Time: 1, User: 7},
		{Kind: event.Invoke, Worker: 0, Op: event.Advance},
		{Kind: event.Point, Worker: 1, Op: event.Start, New: h, Time: 2},
		{Kind: event.Tick, Time: 2},
		{Kind: event.Fire, Worker: 0, Handle: h, Time: 2, User: 7},
		{Kind: event.Return, Worker: 1, Op: event.Start, New: h},
		{Kind: event.Tick, Time: 3},
		{Kind: event.Invoke, Worker: 63, Op: event.Next},
		{Kind: event.Return, Worker: 0, Op: event.Advance},
		{Kind: event.Return, Worker: 63, Op: event.Next, Time: api.None},
		{Kind: event.Invoke, Worker: math.MaxInt, Op: event.Peek},
	}
}

// add puts events into a log, each of which is right.
func add(t *testing.T, l *event.Log, events ...event.Event) {
	t.Helper()
	for _, e := range events {
		if er := l.Add(e); er != api.OK {
			t.Fatalf("Add(%+v) = %d, want OK", e, er)
		}
	}
}

// wantLog holds that a log has these events: all of them, from every place on,
// and by every worker.
func wantLog(t *testing.T, l *event.Log, want []event.Event) {
	t.Helper()
	if l.Len() != len(want) {
		t.Fatalf("Len() = %d, want %d", l.Len(), len(want))
	}
	for from := -2; from <= len(want)+2; from++ {
		rest := want[min(max(from, 0), len(want)):]
		if got := l.List(from); !slices.Equal(got, rest) {
			t.Fatalf("List(%d) = %v, want %v", from, got, rest)
		}
	}
	of := map[int][]event.Event{math.MinInt: nil, -1: nil, 0: nil, 1: nil, 2: nil, 64: nil, math.MaxInt: nil}
	for _, e := range want {
		if e.Kind != event.Tick {
			of[e.Worker] = append(of[e.Worker], e)
		}
	}
	for worker, his := range of {
		if got := l.Of(worker); !slices.Equal(got, his) {
			t.Fatalf("Of(%d) = %v, want %v", worker, got, his)
		}
	}
}

// P11.2: the zero Log has no events.
func TestZeroLog(t *testing.T) {
	var l event.Log
	wantLog(t, &l, nil)
	for _, from := range []int{math.MinInt, math.MaxInt} {
		if got := l.List(from); len(got) != 0 {
			t.Errorf("List(%d) = %v, want none", from, got)
		}
	}
}

// P11.2: each event stands behind all others, also one that was there.
func TestAddInOrder(t *testing.T) {
	var l event.Log
	var want []event.Event
	for _, e := range append(story(), story()...) {
		add(t, &l, e)
		want = append(want, e)
		wantLog(t, &l, want)
	}
}

// P11.2: from that place on; below 0 counts as 0, and behind the last one there
// is nothing.
func TestListFrom(t *testing.T) {
	var l event.Log
	add(t, &l, story()...)
	n := len(story())
	for from, want := range map[int]int{math.MinInt: n, -1: n, 0: n, 1: n - 1, n - 1: 1, n: 0, n + 1: 0, math.MaxInt: 0} {
		if got := l.List(from); !slices.Equal(got, story()[n-want:]) {
			t.Errorf("List(%d) = %v, want the last %d", from, got, want)
		}
	}
}

// P11.2: those of a worker, in order; a Tick is nobody's, the worker 0's neither.
func TestOfWorkers(t *testing.T) {
	var l event.Log
	add(t, &l, story()...)
	s := story()
	for worker, want := range map[int][]event.Event{
		0:           {s[2], s[5], s[9]},
		1:           {s[1], s[3], s[6]},
		2:           nil,
		63:          {s[8], s[10]},
		-1:          nil,
		math.MinInt: nil,
		math.MaxInt: {s[11]},
	} {
		if got := l.Of(worker); !slices.Equal(got, want) {
			t.Errorf("Of(%d) = %v, want %v", worker, got, want)
		}
	}
	var ticks event.Log
	add(t, &ticks, event.Event{Kind: event.Tick}, event.Event{Kind: event.Tick, Time: 1})
	if got := ticks.Of(0); len(got) != 0 {
		t.Errorf("Of(0) of ticks alone = %v, want none", got)
	}
}

// P11.2: ErrForm, if it isn't right, and then nothing is changed (K4).
func TestAddOfWhatIsNotRight(t *testing.T) {
	var l event.Log
	var want []event.Event
	for _, e := range story() {
		for _, bad := range []event.Event{
			{}, {Kind: 6}, {Kind: -1}, {Kind: event.Tick, Time: -1}, {Kind: event.Tick, Worker: 1},
			{Kind: event.Point, Op: event.Peek}, {Kind: event.Invoke}, {Kind: event.Fire, Op: event.Start},
			{Kind: event.Return, Op: event.Next, Time: -2}, {Kind: event.Return, Op: event.Start, New: api.Handle{Gen: 1}, Err: api.ErrFull},
		} {
			if er := l.Add(bad); er != api.ErrForm {
				t.Errorf("Add(%+v) = %d, want ErrForm", bad, er)
			}
		}
		wantLog(t, &l, want)
		add(t, &l, e)
		want = append(want, e)
	}
	wantLog(t, &l, want)
}

// P11.2: Add takes just what is right.
func TestAddTakesWhatIsRight(t *testing.T) {
	var l event.Log
	n := 0
	for kind := -1; kind <= 6; kind++ {
		for op := -1; op <= 8; op++ {
			for _, e := range withOther(event.Event{Kind: kind, Op: op}) {
				want := api.ErrForm
				if event.Right(e) {
					want = api.OK
					n++
				}
				if got := l.Add(e); got != want || l.Len() != n {
					t.Fatalf("Add(%+v) = %d, and %d then, want %d, and %d", e, got, l.Len(), want, n)
				}
			}
		}
	}
}

// P11.2: of many, all are there.
func TestManyEvents(t *testing.T) {
	var l event.Log
	var want []event.Event
	for i := range 100000 {
		e := event.Event{Kind: event.Invoke, Worker: i % 3, Op: event.Start, Time: i}
		if i%7 == 0 {
			e = event.Event{Kind: event.Tick, Time: i}
		}
		add(t, &l, e)
		want = append(want, e)
	}
	if l.Len() != len(want) || !slices.Equal(l.List(0), want) || !slices.Equal(l.List(99000), want[99000:]) {
		t.Error("not all are there")
	}
	for worker := range 4 {
		his := slices.DeleteFunc(slices.Clone(want), func(e event.Event) bool { return e.Kind == event.Tick || e.Worker != worker })
		if !slices.Equal(l.Of(worker), his) {
			t.Errorf("not all are there of %d", worker)
		}
	}
}

// P2 (K5): what is answered is new memory, which neither the log nor another
// answer shares, not even behind its end.
func TestAnswersAreNotShared(t *testing.T) {
	var l event.Log
	add(t, &l, story()[:7]...)
	other := event.Event{Kind: event.Fire, Worker: 5}
	for _, list := range []func() []event.Event{
		func() []event.Event { return l.List(0) },
		func() []event.Event { return l.List(3) },
		func() []event.Event { return l.List(7) },
		func() []event.Event { return l.Of(1) },
		func() []event.Event { return l.Of(2) },
	} {
		first, second := list(), list()
		was := slices.Clone(second)
		for i := range first {
			first[i] = other
		}
		whole := first[:cap(first)]
		for i := range whole {
			whole[i] = other
		}
		if !slices.Equal(second, was) || !slices.Equal(list(), was) {
			t.Errorf("an answer is %v then, and the next one %v, want %v", second, list(), was)
		}
	}
	wantLog(t, &l, story()[:7])
	early := l.List(0)
	_ = append(early[:6], other)
	add(t, &l, story()[7:]...)
	wantLog(t, &l, story())
	if !slices.Equal(early[:6], story()[:6]) {
		t.Errorf("an early answer is %v then", early)
	}
}

// P2 (K6): each log has its own events.
func TestLogsAreApart(t *testing.T) {
	var a, b event.Log
	add(t, &a, story()[:4]...)
	wantLog(t, &b, nil)
	add(t, &b, story()[4:]...)
	wantLog(t, &a, story()[:4])
	wantLog(t, &b, story()[4:])
}
