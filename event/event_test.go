package event_test

import (
	"math"
	"strconv"
	"strings"
	"testing"

	"knell/api"
	"knell/event"
)

// The numbers of the kinds and the operations, as the chapter tells them.
func TestNumbers(t *testing.T) {
	if l := [5]int{event.Tick, event.Invoke, event.Point, event.Fire, event.Return}; l != [5]int{1, 2, 3, 4, 5} {
		t.Error(l)
	}
	if l := [7]int{event.Start, event.Cancel, event.Rearm, event.Migrate, event.Advance, event.Next, event.Peek}; l != [7]int{1, 2, 3, 4, 5, 6, 7} {
		t.Error(l)
	}
}

// wantLine holds that an event is right and has that line; of an empty one that
// it isn't right.
func wantLine(t *testing.T, e event.Event, want string) {
	t.Helper()
	if got := event.Line(e); got != want {
		t.Errorf("Line(%+v) = %q, want %q", e, got, want)
	}
	if got := event.Right(e); got != (want != "") {
		t.Errorf("Right(%+v) = %v, want %v", e, got, want != "")
	}
}

// The chapter's example.
func TestExample(t *testing.T) {
	wantLine(t, event.Event{Kind: event.Invoke, Worker: 1, Op: event.Start, Time: 5, User: 7}, "invoke 1 start 5 0 7")
}

// P11.1: each kind, with each Op that it may have.
func TestLineOfEachKind(t *testing.T) {
	h, n := api.Handle{Node: 12, Gen: 3}, api.Handle{Node: 5, Gen: 4294967295}
	for _, x := range []struct {
		e    event.Event
		want string
	}{
		{event.Event{Kind: event.Tick, Time: 8}, "tick 8"},
		{event.Event{Kind: event.Invoke, Worker: 2, Op: event.Start, Time: 10, Arg: 20, User: 30}, "invoke 2 start 10 20 30"},
		{event.Event{Kind: event.Invoke, Worker: 2, Op: event.Cancel, Handle: h}, "invoke 2 cancel 12.3"},
		{event.Event{Kind: event.Invoke, Worker: 2, Op: event.Rearm, Handle: h, Time: 10}, "invoke 2 rearm 12.3 10"},
		{event.Event{Kind: event.Invoke, Worker: 2, Op: event.Migrate, Handle: h, Arg: 20}, "invoke 2 migrate 12.3 20"},
		{event.Event{Kind: event.Invoke, Worker: 2, Op: event.Advance}, "invoke 2 advance"},
		{event.Event{Kind: event.Invoke, Worker: 2, Op: event.Next}, "invoke 2 next"},
		{event.Event{Kind: event.Invoke, Worker: 2, Op: event.Peek}, "invoke 2 peek"},
		{event.Event{Kind: event.Point, Worker: 3, Op: event.Start, New: n, Time: 10}, "point 3 start 5.4294967295 10 0"},
		{event.Event{Kind: event.Point, Worker: 3, Op: event.Start, Err: api.ErrExhausted}, "point 3 start 5"},
		{event.Event{Kind: event.Point, Worker: 3, Op: event.Cancel, Handle: h, Yes: true}, "point 3 cancel 12.3 yes"},
		{event.Event{Kind: event.Point, Worker: 3, Op: event.Cancel, Handle: h}, "point 3 cancel 12.3 no"},
		{event.Event{Kind: event.Point, Worker: 3, Op: event.Rearm, Handle: h, New: n, Time: 10}, "point 3 rearm 12.3 5.4294967295 10 0"},
		{event.Event{Kind: event.Point, Worker: 3, Op: event.Rearm, Handle: h, Err: api.ErrStale}, "point 3 rearm 12.3 4"},
		{event.Event{Kind: event.Point, Worker: 3, Op: event.Migrate, Handle: h}, "point 3 migrate 12.3 0"},
		{event.Event{Kind: event.Point, Worker: 3, Op: event.Migrate, Handle: h, Err: api.ErrArg}, "point 3 migrate 12.3 1"},
		{event.Event{Kind: event.Fire, Worker: 4, Handle: h, Time: 10, User: 30}, "fire 4 12.3 10 30"},
		{event.Event{Kind: event.Return, Worker: 63, Op: event.Start, New: n}, "return 63 start 5.4294967295 0"},
		{event.Event{Kind: event.Return, Worker: 63, Op: event.Start, Err: api.ErrNone}, "return 63 start 10"},
		{event.Event{Kind: event.Return, Worker: 63, Op: event.Cancel, Yes: true}, "return 63 cancel yes"},
		{event.Event{Kind: event.Return, Worker: 63, Op: event.Cancel}, "return 63 cancel no"},
		{event.Event{Kind: event.Return, Worker: 63, Op: event.Rearm, New: n}, "return 63 rearm 5.4294967295 0"},
		{event.Event{Kind: event.Return, Worker: 63, Op: event.Rearm, Err: api.ErrRange}, "return 63 rearm 2"},
		{event.Event{Kind: event.Return, Worker: 63, Op: event.Migrate}, "return 63 migrate 0"},
		{event.Event{Kind: event.Return, Worker: 63, Op: event.Migrate, Err: api.ErrFull}, "return 63 migrate 3"},
		{event.Event{Kind: event.Return, Worker: 63, Op: event.Advance}, "return 63 advance"},
		{event.Event{Kind: event.Return, Worker: 63, Op: event.Next, Time: 10}, "return 63 next 10"},
		{event.Event{Kind: event.Return, Worker: 63, Op: event.Next, Time: -1}, "return 63 next -1"},
		{event.Event{Kind: event.Return, Worker: 63, Op: event.Peek, Time: 10}, "return 63 peek 10"},
		{event.Event{Kind: event.Return, Worker: 63, Op: event.Peek, Time: -1}, "return 63 peek -1"},
	} {
		wantLine(t, x.e, x.want)
	}
}

// P11.1: numbers at both ends of what an int is; errors may be of whatever size,
// and no number is bounded from above.
func TestLineOfGreatNumbers(t *testing.T) {
	const most, least = "9223372036854775807", "-9223372036854775808"
	great, small := api.Handle{Node: math.MaxInt, Gen: math.MaxInt}, api.Handle{Node: math.MinInt, Gen: -1}
	for _, x := range []struct {
		e    event.Event
		want string
	}{
		{event.Event{Kind: event.Tick, Time: math.MaxInt}, "tick " + most},
		{event.Event{Kind: event.Invoke, Worker: math.MaxInt, Op: event.Start, Time: math.MinInt, Arg: math.MinInt, User: math.MinInt}, "invoke " + most + " start " + least + " " + least + " " + least},
		{event.Event{Kind: event.Invoke, Op: event.Start, Time: math.MaxInt, Arg: math.MaxInt, User: math.MaxInt}, "invoke 0 start " + most + " " + most + " " + most},
		{event.Event{Kind: event.Invoke, Op: event.Cancel, Handle: small}, "invoke 0 cancel " + least + ".-1"},
		{event.Event{Kind: event.Invoke, Op: event.Rearm, Handle: small, Time: -1}, "invoke 0 rearm " + least + ".-1 -1"},
		{event.Event{Kind: event.Invoke, Op: event.Migrate, Handle: small, Arg: -1}, "invoke 0 migrate " + least + ".-1 -1"},
		{event.Event{Kind: event.Point, Op: event.Start, New: great, Time: math.MaxInt}, "point 0 start " + most + "." + most + " " + most + " 0"},
		{event.Event{Kind: event.Point, Op: event.Start, Err: math.MaxInt}, "point 0 start " + most},
		{event.Event{Kind: event.Point, Op: event.Start, Err: 11}, "point 0 start 11"},
		{event.Event{Kind: event.Point, Op: event.Cancel, Handle: small}, "point 0 cancel " + least + ".-1 no"},
		{event.Event{Kind: event.Point, Op: event.Cancel, Handle: small, Yes: true}, "point 0 cancel " + least + ".-1 yes"},
		{event.Event{Kind: event.Point, Op: event.Rearm, Handle: small, Err: 4}, "point 0 rearm " + least + ".-1 4"},
		{event.Event{Kind: event.Point, Op: event.Rearm, Handle: small, New: great}, "point 0 rearm " + least + ".-1 " + most + "." + most + " 0 0"},
		{event.Event{Kind: event.Point, Op: event.Migrate, Handle: small}, "point 0 migrate " + least + ".-1 0"},
		{event.Event{Kind: event.Fire, Handle: great, User: math.MaxInt}, "fire 0 " + most + "." + most + " 0 " + most},
		{event.Event{Kind: event.Return, Op: event.Rearm, Err: math.MaxInt}, "return 0 rearm " + most},
		{event.Event{Kind: event.Return, Op: event.Peek, Time: math.MaxInt}, "return 0 peek " + most},
	} {
		wantLine(t, x.e, x.want)
	}
}

// P11.1: what is least right, and the empty text of what isn't right: kinds and
// operations that aren't such ones, fields that the kind hasn't, numbers that
// are less than they may be.
func TestWhatIsNotRight(t *testing.T) {
	h := api.Handle{Node: 1, Gen: 1}
	for _, e := range []event.Event{
		{},
		{Kind: -1}, {Kind: 6}, {Kind: math.MinInt}, {Kind: math.MaxInt},
		{Kind: 6, Op: event.Start}, {Kind: -1, Op: event.Start}, {Op: event.Start},
		{Kind: event.Tick, Time: -1}, {Kind: event.Tick, Op: event.Advance}, {Kind: event.Tick, Worker: 1}, {Kind: event.Tick, Worker: -1},
		{Kind: event.Invoke}, {Kind: event.Invoke, Op: 8}, {Kind: event.Invoke, Op: -1}, {Kind: event.Invoke, Op: math.MaxInt}, {Kind: event.Invoke, Op: math.MinInt},
		{Kind: event.Invoke, Op: event.Peek, Worker: -1}, {Kind: event.Invoke, Op: event.Start, Worker: -1},
		{Kind: event.Invoke, Op: event.Start, Err: 1}, {Kind: event.Invoke, Op: event.Cancel, Yes: true}, {Kind: event.Invoke, Op: event.Rearm, New: h},
		{Kind: event.Point}, {Kind: event.Point, Op: event.Advance}, {Kind: event.Point, Op: event.Next}, {Kind: event.Point, Op: event.Peek},
		{Kind: event.Point, Op: event.Start, Time: -1}, {Kind: event.Point, Op: event.Start, Time: 1, Err: 3}, {Kind: event.Point, Op: event.Start, Handle: h},
		{Kind: event.Point, Op: event.Rearm, Handle: h, New: h, Err: 3}, {Kind: event.Point, Op: event.Rearm, Handle: h, Time: 1, Err: 3},
		{Kind: event.Point, Op: event.Rearm, New: api.Handle{Node: -1}}, {Kind: event.Point, Op: event.Rearm, New: api.Handle{Gen: -1}},
		{Kind: event.Point, Op: event.Migrate, Err: -1}, {Kind: event.Point, Op: event.Migrate, Err: math.MinInt}, {Kind: event.Point, Op: event.Start, Err: -1},
		{Kind: event.Point, Op: event.Cancel, Worker: -1},
		{Kind: event.Fire, Op: event.Advance}, {Kind: event.Fire, Time: -1}, {Kind: event.Fire, User: -1}, {Kind: event.Fire, Worker: -1},
		{Kind: event.Fire, Handle: api.Handle{Node: -1}}, {Kind: event.Fire, Handle: api.Handle{Gen: -1}}, {Kind: event.Fire, Arg: 1}, {Kind: event.Fire, New: h},
		{Kind: event.Return}, {Kind: event.Return, Op: 8}, {Kind: event.Return, Op: event.Next, Time: -2}, {Kind: event.Return, Op: event.Peek, Time: math.MinInt},
		{Kind: event.Return, Op: event.Advance, Time: -1}, {Kind: event.Return, Op: event.Start, Time: -1}, {Kind: event.Return, Op: event.Migrate, Time: -1},
		{Kind: event.Return, Op: event.Start, New: h, Err: 3}, {Kind: event.Return, Op: event.Start, New: api.Handle{Gen: -1}}, {Kind: event.Return, Op: event.Rearm, New: h, Err: 3},
		{Kind: event.Return, Op: event.Cancel, Handle: h}, {Kind: event.Return, Op: event.Cancel, Err: 1}, {Kind: event.Return, Op: event.Migrate, Yes: true}, {Kind: event.Return, Op: event.Next, Err: 1},
	} {
		wantLine(t, e, "")
	}
	wantLine(t, event.Event{Kind: event.Tick}, "tick 0")
	wantLine(t, event.Event{Kind: event.Invoke, Op: event.Start}, "invoke 0 start 0 0 0")
	wantLine(t, event.Event{Kind: event.Point, Op: event.Start}, "point 0 start 0.0 0 0")
	wantLine(t, event.Event{Kind: event.Fire}, "fire 0 0.0 0 0")
	wantLine(t, event.Event{Kind: event.Return, Op: event.Next}, "return 0 next 0")
}

// shape is a row of the chapter's table, cut by the operations and by whether
// the Err is another one than OK: the fields in the order of a line, with a ~
// ahead of those in which any numbers may stand, a - ahead of a Time of -1 on.
type shape struct {
	kind, op int
	failed   bool
	words    string
	fields   string
}

var shapes = []shape{
	{1, 0, false, "tick", "Time"},
	{2, 1, false, "invoke start", "Worker ~Time ~Arg ~User"},
	{2, 2, false, "invoke cancel", "Worker ~Handle"},
	{2, 3, false, "invoke rearm", "Worker ~Handle ~Time"},
	{2, 4, false, "invoke migrate", "Worker ~Handle ~Arg"},
	{2, 5, false, "invoke advance", "Worker"},
	{2, 6, false, "invoke next", "Worker"},
	{2, 7, false, "invoke peek", "Worker"},
	{3, 1, false, "point start", "Worker New Time Err"},
	{3, 1, true, "point start", "Worker Err"},
	{3, 2, false, "point cancel", "Worker ~Handle Yes"},
	{3, 3, false, "point rearm", "Worker ~Handle New Time Err"},
	{3, 3, true, "point rearm", "Worker ~Handle Err"},
	{3, 4, false, "point migrate", "Worker ~Handle Err"},
	{3, 4, true, "point migrate", "Worker ~Handle Err"},
	{4, 0, false, "fire", "Worker Handle Time User"},
	{5, 1, false, "return start", "Worker New Err"},
	{5, 1, true, "return start", "Worker Err"},
	{5, 2, false, "return cancel", "Worker Yes"},
	{5, 3, false, "return rearm", "Worker New Err"},
	{5, 3, true, "return rearm", "Worker Err"},
	{5, 4, false, "return migrate", "Worker Err"},
	{5, 4, true, "return migrate", "Worker Err"},
	{5, 5, false, "return advance", "Worker"},
	{5, 6, false, "return next", "Worker -Time"},
	{5, 7, false, "return peek", "Worker -Time"},
}

// bounds gives an event's numbers, and the least and the most that each of them
// may be by the shape: 0 and 0 of a field that it hasn't.
func (s shape) bounds(e event.Event) (l, least, most [10]int) {
	yes := 0
	if e.Yes {
		yes = 1
	}
	l = [10]int{e.Worker, e.Handle.Node, e.Handle.Gen, e.New.Node, e.New.Gen, e.Time, e.Arg, e.User, yes, int(e.Err)}
	places := map[string][]int{"Worker": {0}, "Handle": {1, 2}, "New": {3, 4}, "Time": {5}, "Arg": {6}, "User": {7}, "Yes": {8}, "Err": {9}}
	for _, f := range strings.Fields(s.fields) {
		for _, i := range places[strings.Trim(f, "~-")] {
			most[i] = math.MaxInt
			switch f[0] {
			case '~':
				least[i] = math.MinInt
			case '-':
				least[i] = -1
			}
		}
	}
	return l, least, most
}

// has tells whether an event that is of the shape's kind is right.
func (s shape) has(e event.Event) bool {
	l, least, most := s.bounds(e)
	for i, v := range l {
		if v < least[i] || v > most[i] {
			return false
		}
	}
	return true
}

// line gives the line of an event that the shape has.
func (s shape) line(e event.Event) string {
	texts := map[string]string{
		"Worker": strconv.Itoa(e.Worker),
		"Handle": strconv.Itoa(e.Handle.Node) + "." + strconv.Itoa(e.Handle.Gen),
		"New":    strconv.Itoa(e.New.Node) + "." + strconv.Itoa(e.New.Gen),
		"Time":   strconv.Itoa(e.Time),
		"Arg":    strconv.Itoa(e.Arg),
		"User":   strconv.Itoa(e.User),
		"Yes":    map[bool]string{true: "yes", false: "no"}[e.Yes],
		"Err":    strconv.Itoa(int(e.Err)),
	}
	words := strings.Fields(s.words)
	line := words[0]
	for _, f := range strings.Fields(s.fields) {
		name := strings.Trim(f, "~-")
		line += " " + texts[name]
		if name == "Worker" && len(words) > 1 {
			line += " " + words[1]
		}
	}
	return line
}

// lineOf gives an event's line, as the chapter's table tells it.
func lineOf(e event.Event) string {
	for _, s := range shapes {
		if s.kind == e.Kind && s.op == e.Op && s.failed == (e.Err != api.OK) && s.has(e) {
			return s.line(e)
		}
	}
	return ""
}

// withOther gives events that differ from one in one field, or half of one.
func withOther(e event.Event) []event.Event {
	var l []event.Event
	yes := e
	yes.Yes = !e.Yes
	l = append(l, yes)
	for _, v := range []int{math.MinInt, -1 << 32, -2, -1, 0, 1, 2, 4, 8, 16, 63, 64, api.MaxTime, api.MaxTime + 1, 1 << 32, math.MaxInt} {
		for field := range 11 {
			o := e
			*[11]*int{&o.Kind, &o.Op, &o.Worker, &o.Handle.Node, &o.Handle.Gen, &o.New.Node, &o.New.Gen, &o.Time, &o.Arg, &o.User, (*int)(&o.Err)}[field] = v
			l = append(l, o)
		}
	}
	return l
}

// P11.1: every kind with every Op, with one and with two fields changed from
// all 0, is right and has a line just where the chapter's table says so.
func TestAllFieldsOfAllKinds(t *testing.T) {
	right := 0
	for kind := -1; kind <= 6; kind++ {
		for op := -1; op <= 8; op++ {
			for _, one := range withOther(event.Event{Kind: kind, Op: op}) {
				for _, two := range withOther(one) {
					want := lineOf(two)
					if got := event.Line(two); got != want || event.Right(two) != (want != "") {
						t.Fatalf("Line(%+v) = %q, Right %v, want %q", two, got, event.Right(two), want)
					}
					if want != "" {
						right++
					}
				}
			}
		}
	}
	if right < 10000 {
		t.Errorf("only %d of them were right", right)
	}
}

// P11.1: an event whose fields all hold something, with one and with two of its
// fields changed, is right and has a line just where the chapter's table says so.
func TestFullEventsWithOneOther(t *testing.T) {
	for _, s := range shapes {
		full := event.Event{Kind: s.kind, Op: s.op}
		for _, f := range strings.Fields(s.fields) {
			switch strings.Trim(f, "~-") {
			case "Worker":
				full.Worker = 9
			case "Handle":
				full.Handle = api.Handle{Node: 21, Gen: 22}
			case "New":
				full.New = api.Handle{Node: 31, Gen: 32}
			case "Time":
				full.Time = 40
			case "Arg":
				full.Arg = 50
			case "User":
				full.User = 60
			case "Yes":
				full.Yes = true
			}
		}
		if s.failed {
			full.Err = api.ErrShort
		}
		wantLine(t, full, s.line(full))
		for _, one := range withOther(full) {
			for _, two := range withOther(one) {
				if got, want := event.Line(two), lineOf(two); got != want || event.Right(two) != (want != "") {
					t.Fatalf("Line(%+v) = %q, Right %v, want %q", two, got, event.Right(two), want)
				}
			}
		}
	}
}

// P2 (K6): what is answered hangs on the event alone, also behind one that isn't
// right.
func TestAnswersStaySo(t *testing.T) {
	e := event.Event{Kind: event.Fire, Worker: 1, Handle: api.Handle{Node: 2, Gen: 3}, Time: 4, User: 5}
	for range 3 {
		wantLine(t, e, "fire 1 2.3 4 5")
		wantLine(t, event.Event{Kind: event.Fire, Op: 1}, "")
	}
}
