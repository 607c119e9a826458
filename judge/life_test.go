package judge_test

import (
	"math/rand"
	"slices"
	"testing"

	"knell/api"
	"knell/event"
	"knell/judge"
	"knell/model"
)

// A past is what a bench has heard, from which all is found anew whenever
// something is asked.
type past struct {
	workers int
	l       []event.Event
}

// model gives a model in which all of it has come about.
func (p past) model() *model.Model {
	m := model.New()
	for _, e := range p.l {
		m.Do(e) // an Invoke and a Return are no matter of a model
	}
	return m
}

// began gives the place of the Invoke of what a worker is in; -1, if it is in
// nothing.
func (p past) began(worker int) int {
	for i := len(p.l) - 1; i >= 0; i-- {
		e := p.l[i]
		if e.Worker == worker && e.Kind == event.Return {
			return -1
		}
		if e.Worker == worker && e.Kind == event.Invoke {
			return i
		}
	}
	return -1
}

// op gives the operation that a worker is in.
func (p past) op(worker int) int {
	if i := p.began(worker); i >= 0 {
		return p.l[i].Op
	}
	return 0
}

// time gives how many ticks there were ahead of a place.
func (p past) time(place int) int {
	n := 0
	for _, e := range p.l[:place] {
		if e.Kind == event.Tick {
			n++
		}
	}
	return n
}

// point gives the Points of what a worker is in: one or none.
func (p past) point(worker int) []event.Event {
	var l []event.Event
	for _, e := range p.l[p.began(worker):] {
		if e.Kind == event.Point && e.Worker == worker {
			l = append(l, e)
		}
	}
	return l
}

// can tells whether an event that is right can be, but for what the model asks.
func (p past) can(e event.Event) bool {
	at, now := p.began(e.Worker), p.time(len(p.l))
	switch {
	case e.Kind == event.Tick:
		return true
	case e.Kind == event.Invoke:
		return at < 0
	case at < 0:
		return false
	}
	invoke := p.l[at]
	switch e.Kind {
	case event.Fire:
		return invoke.Op == event.Advance && e.Time >= p.time(at)
	case event.Point:
		if e.Op != invoke.Op || len(p.point(e.Worker)) > 0 {
			return false
		}
		if e.Op != event.Start && e.Handle != invoke.Handle {
			return false
		}
		if e.Err == api.OK && (e.Op == event.Start || e.Op == event.Rearm) {
			return p.time(at)+invoke.Time <= e.Time && e.Time <= now+invoke.Time
		}
		return true
	}
	if e.Op != invoke.Op {
		return false
	}
	if e.Op >= event.Advance {
		return true
	}
	l := p.point(e.Worker)
	return len(l) == 1 && l[0].New == e.New && l[0].Yes == e.Yes && l[0].Err == e.Err
}

// answer gives what Hear answers.
func (p past) answer(e event.Event) api.Errno {
	if !event.Right(e) || e.Kind != event.Tick && e.Worker >= p.workers {
		return api.ErrForm
	}
	if !p.can(e) {
		return api.ErrState
	}
	if e.Kind == event.Invoke || e.Kind == event.Return {
		return api.OK
	}
	return p.model().Do(e)
}

// A life is a bench, with all its past beside it.
type life struct {
	t *testing.T
	b *judge.Bench
	p past
}

// hear lets an event be heard by both, if it can be.
func (x *life) hear(e event.Event) api.Errno {
	x.t.Helper()
	want := x.p.answer(e)
	if got := x.b.Hear(e); got != want {
		x.t.Fatalf("Hear(%+v) = %d, want %d, behind %+v", e, got, want, x.p.l)
	}
	if want == api.OK {
		x.p.l = append(x.p.l, e)
	}
	return want
}

// hold holds all that the bench tells against its past.
func (x *life) hold() {
	x.t.Helper()
	quiet := true
	for w := -1; w <= x.p.workers; w++ {
		want := x.p.op(w)
		if got := x.b.Busy(w); got != want {
			x.t.Fatalf("Busy(%d) = %d, want %d, behind %+v", w, got, want, x.p.l)
		}
		quiet = quiet && want == 0
	}
	if x.b.Quiet() != quiet {
		x.t.Fatalf("Quiet() = %t behind %+v", !quiet, x.p.l)
	}
	m := x.p.model()
	for node := range 3 {
		for gen := range 6 {
			h := handle(node, gen)
			if got, want := x.b.Status(h), m.Status(h); got != want {
				x.t.Fatalf("Status(%v) = %d, want %d, behind %+v", h, got, want, x.p.l)
			}
		}
	}
}

// handleNear gives one of a few handles.
func handleNear(r *rand.Rand) api.Handle { return handle(r.Intn(2), r.Intn(4)) }

// errNear gives one of a few errors, most often none.
func errNear(r *rand.Rand) api.Errno {
	return []api.Errno{api.OK, api.OK, api.OK, api.ErrStale, api.ErrFull}[r.Intn(5)]
}

// drawInvoke gives an Invoke that is right.
func drawInvoke(r *rand.Rand, worker int) event.Event {
	switch op := 1 + r.Intn(7); op {
	case event.Start:
		return beginStart(worker, r.Intn(4)-1)
	case event.Rearm:
		return beginRearm(worker, handleNear(r), r.Intn(4)-1)
	case event.Cancel, event.Migrate:
		return beginOf(worker, op, handleNear(r))
	default:
		return begin(worker, op)
	}
}

// drawPoint gives a Point of what a worker is in, that often can be.
func drawPoint(r *rand.Rand, p past, worker int) event.Event {
	invoke := event.Event{Op: 1 + r.Intn(4), Handle: handleNear(r)}
	if at := p.began(worker); at >= 0 && r.Intn(8) > 0 {
		invoke = p.l[at]
	}
	h := invoke.Handle
	if r.Intn(8) == 0 {
		h = handleNear(r)
	}
	deadline := p.time(len(p.l)) + invoke.Time + 1 - r.Intn(4)
	next, err := handle(h.Node, h.Gen+1), errNear(r)
	switch {
	case invoke.Op == event.Start && err == api.OK:
		return start(worker, handleNear(r), deadline)
	case invoke.Op == event.Start:
		return startFails(worker, err)
	case invoke.Op == event.Rearm && err == api.OK:
		return rearm(worker, h, next, deadline)
	case invoke.Op == event.Rearm:
		return rearmFails(worker, h, err)
	case invoke.Op == event.Cancel:
		return cancel(worker, h, r.Intn(2) == 0)
	}
	return migrate(worker, h, err)
}

// drawReturn gives a Return of what a worker is in, that often can be.
func drawReturn(r *rand.Rand, p past, worker int) event.Event {
	e := end(worker, 1+r.Intn(7))
	if at := p.began(worker); at >= 0 && r.Intn(8) > 0 {
		e.Op = p.l[at].Op
		for _, point := range p.point(worker) {
			e.New, e.Yes, e.Err = point.New, point.Yes, point.Err
		}
	}
	switch r.Intn(12) {
	case 0:
		e.New = handleNear(r)
	case 1:
		e.Yes = !e.Yes
	case 2:
		e.Err = errNear(r)
	case 3:
		e.Time = r.Intn(4) - 1
	}
	return e
}

// draw gives an event that often can be.
func draw(r *rand.Rand, p past) event.Event {
	worker := r.Intn(p.workers)
	if r.Intn(20) == 0 {
		worker = r.Intn(p.workers+2) - 1
	}
	switch r.Intn(10) {
	case 0:
		return tick(p.time(len(p.l)) + 1 + r.Intn(6)/5)
	case 1, 2, 3:
		return drawInvoke(r, worker)
	case 4, 5:
		return drawPoint(r, p, worker)
	case 6, 7:
		return fire(worker, handleNear(r), max(p.time(len(p.l))+1-r.Intn(4), 0))
	}
	return drawReturn(r, p, worker)
}

// P13.1 to P13.3: in random lives of a few workers and handles all that is told
// is answered as the chapter says, and what can't be changes nothing.
func TestLives(t *testing.T) {
	heardOf := map[[2]int]int{}
	for seed := range int64(120) {
		r := rand.New(rand.NewSource(seed))
		workers := 1 + r.Intn(3)
		x := &life{t, newBench(t, workers), past{workers: workers}}
		for range 250 {
			e := draw(r, x.p)
			if x.hear(e) == api.OK {
				heardOf[[2]int{e.Kind, e.Op}]++
			}
			x.hold()
		}
		if at, e := judge.Judge(x.p.l, workers); at != -1 || e != api.OK {
			t.Fatal(at, e)
		}
	}
	if len(heardOf) != 1+7+4+1+7 {
		t.Error("too little came about:", heardOf)
	}
}

// P13.3: of histories in which one event is another one, or is missing, or stands
// elsewhere, the first that can't be is told.
func TestJudgeOfOtherHistories(t *testing.T) {
	for seed := range int64(60) {
		r := rand.New(rand.NewSource(seed))
		x := &life{t, newBench(t, 2), past{workers: 2}}
		for len(x.p.l) < 40 {
			x.hear(draw(r, x.p))
		}
		for range 20 {
			l := slices.Clone(x.p.l)
			i, j := r.Intn(len(l)), r.Intn(len(l))
			switch r.Intn(3) {
			case 0:
				l[i], l[j] = l[j], l[i]
			case 1:
				l = slices.Delete(l, i, i+1)
			case 2:
				l[i] = draw(r, past{2, l[:j]})
			}
			wantAt, want := -1, api.OK
			p := past{workers: 2}
			for k, e := range l {
				if want = p.answer(e); want != api.OK {
					wantAt = k
					break
				}
				p.l = append(p.l, e)
			}
			if at, e := judge.Judge(l, 2); at != wantAt || e != want {
				t.Fatalf("Judge(%+v) = %d, %d, want %d, %d", l, at, e, wantAt, want)
			}
		}
	}
}

// P13.1, P13.2: every four events of a small choice of two workers, one behind
// the other.
func TestAllShortLives(t *testing.T) {
	h := handle(0, 0)
	choice := []event.Event{
		tick(1), beginStart(0, 0), beginStart(0, 1), start(0, h, 0), start(0, h, 1), startFails(0, api.ErrFull),
		endMade(0, event.Start, h), endFails(0, event.Start, api.ErrFull), beginOf(1, event.Cancel, h), cancel(1, h, true), cancel(1, h, false),
		endCancel(1, true), endCancel(1, false), begin(1, event.Advance), fire(1, h, 0), fire(1, h, 1), end(1, event.Advance),
	}
	var all func(l []event.Event, left int)
	all = func(l []event.Event, left int) {
		if left == 0 {
			x := &life{t, newBench(t, 2), past{workers: 2}}
			for _, e := range l {
				x.hear(e)
			}
			x.hold()
			return
		}
		for _, e := range choice {
			all(append(slices.Clone(l), e), left-1)
		}
	}
	all(nil, 4)
}
