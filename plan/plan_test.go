package plan_test

import (
	"math"
	"slices"
	"testing"

	"knell/api"
	"knell/plan"
	"knell/word"
)

// bounds are those that the chapter's table tells, by their places, written out
// as the limits' numbers are there.
var bounds = [plan.Fields][2]int{
	{1, 64},
	{1, 8},
	{1, 6},
	{1, 4096},
	{1, 8192},
	{0, 1073741823},
	{0, 4294967295},
	{0, 256},
	{1, 1073741823},
	{1, 1073741823},
	{1, 1073741823},
	{0, 1073741823},
	{0, 31},
}

func least() [plan.Fields]int {
	var l [plan.Fields]int
	for i, b := range bounds {
		l[i] = b[0]
	}
	return l
}

func greatest() [plan.Fields]int {
	var l [plan.Fields]int
	for i, b := range bounds {
		l[i] = b[1]
	}
	return l
}

// usual is a configuration whose numbers are all unlike.
func usual() plan.Config {
	return plan.Config{
		Workers: 3, Levels: 4, Bits: 2,
		Nodes: 7, Tickets: 10, Slack: 5, First: 9,
		Conns: 6, Timeout: 11, Base: 12, Cap: 13, Jitter: 8,
		Attempts: 14,
	}
}

// shapes are configurations from the smallest to the greatest.
func shapes() []plan.Config {
	c := []plan.Config{plan.Of(least()), usual(), plan.Of(greatest())}
	for i := range 8 {
		l, m := least(), greatest()
		l[i], m[i] = bounds[i][1], bounds[i][0]
		c = append(c, plan.Of(l), plan.Of(m))
	}
	return c
}

func planOf(t *testing.T, c plan.Config) *plan.Plan {
	t.Helper()
	p, e := plan.New(c)
	if e != api.OK || p == nil {
		t.Fatalf("New(%+v) answers %v, %v", c, p, e)
	}
	return p
}

// P3.1: the numbers stand in the order of the table.
func TestListOf(t *testing.T) {
	if plan.Fields != 13 {
		t.Errorf("Fields is %d", plan.Fields)
	}
	want := [plan.Fields]int{3, 4, 2, 7, 10, 5, 9, 6, 11, 12, 13, 8, 14}
	if got := plan.List(usual()); got != want {
		t.Errorf("List = %v, want %v", got, want)
	}
	if got := plan.Of(want); got != usual() {
		t.Errorf("Of = %+v, want %+v", got, usual())
	}
}

// P3.1: List and Of take any numbers, also such as no configuration may have.
func TestListOfWrongNumbers(t *testing.T) {
	for _, v := range []int{0, -1, math.MinInt, math.MaxInt} {
		for i := range plan.Fields {
			var l [plan.Fields]int
			l[i] = v
			if got := plan.List(plan.Of(l)); got != l {
				t.Errorf("List(Of(%v)) = %v", l, got)
			}
		}
	}
}

// wantCheck holds what Check and New answer against the place of the first
// wrong number; -1, if there is none.
func wantCheck(t *testing.T, l [plan.Fields]int, place int) {
	t.Helper()
	want := api.ErrConfig
	if place < 0 {
		place, want = 0, api.OK
	}
	c := plan.Of(l)
	if at, e := plan.Check(c); at != place || e != want {
		t.Errorf("Check(%v) = %d, %v, want %d, %v", l, at, e, place, want)
	}
	p, e := plan.New(c)
	if e != want || (p != nil) != (want == api.OK) {
		t.Errorf("New(%v) = %v, %v, want %v", l, p, e, want)
	}
	if p != nil && p.Config() != c {
		t.Errorf("Config() = %+v, want %+v", p.Config(), c)
	}
}

// P3.1: both bounds of each number may be, what is beyond them not.
func TestCheckBounds(t *testing.T) {
	wantCheck(t, least(), -1)
	wantCheck(t, greatest(), -1)
	wantCheck(t, plan.List(usual()), -1)
	wantCheck(t, [plan.Fields]int{}, 0)
	for i, b := range bounds {
		for _, l := range [][plan.Fields]int{least(), greatest(), plan.List(usual())} {
			for _, v := range []int{b[0], b[1], (b[0] + b[1]) / 2} {
				l[i] = v
				wantCheck(t, l, -1)
			}
			for _, v := range []int{b[0] - 1, b[1] + 1, math.MinInt, math.MaxInt} {
				l[i] = v
				wantCheck(t, l, i)
			}
		}
	}
}

// P3.1: of several wrong numbers the first one is told.
func TestCheckFirst(t *testing.T) {
	for i := range plan.Fields {
		for j := i + 1; j < plan.Fields; j++ {
			l := plan.List(usual())
			l[i], l[j] = bounds[i][1]+1, bounds[j][0]-1
			wantCheck(t, l, i)
			l[i], l[j] = bounds[i][0]-1, bounds[j][1]+1
			wantCheck(t, l, i)
		}
	}
}

// P3.1: a plan keeps the configuration that it was made of.
func TestConfigIsKept(t *testing.T) {
	c := usual()
	p := planOf(t, c)
	c.Workers = 1
	if got := p.Config(); got != usual() {
		t.Errorf("Config() = %+v, want %+v", got, usual())
	}
}

// places are those of all cells, each once, in an order of the test's own.
func places(p *plan.Plan) []int {
	c := p.Config()
	l := []int{p.Clock(), p.Nodes(), p.Tickets()}
	for s := range c.Workers {
		l = append(l, p.Inbox(s), p.Cur(s), p.Over(s))
		for level := range c.Levels {
			l = append(l, p.Map(s, level))
			for i := range 1 << c.Bits {
				l = append(l, p.Slot(s, level, i))
			}
		}
	}
	for n := range c.Nodes {
		l = append(l, p.State(n), p.Home(n), p.User(n), p.NodeLink(n))
	}
	for k := range c.Tickets {
		l = append(l, p.Key(k), p.Time(k), p.TicketLink(k))
	}
	for x := range c.Conns {
		l = append(l, p.Conn(x))
	}
	return l
}

// P3.2: as many cells as the chapter's sum.
func TestSize(t *testing.T) {
	for _, x := range []struct {
		c    plan.Config
		want int
	}{
		{plan.Of(least()), 16},
		{usual(), 3 + 3*(3+4*5) + 4*7 + 3*10 + 6},
		{plan.Of(greatest()), 3 + 64*(3+8*65) + 4*4096 + 3*8192 + 256},
	} {
		if got := planOf(t, x.c).Size(); got != x.want {
			t.Errorf("Size() of %+v = %d, want %d", x.c, got, x.want)
		}
	}
}

// P3.2: unlike cells have unlike places, which are all from 0 to Size() - 1.
func TestPlacesAreUnlike(t *testing.T) {
	for _, c := range shapes() {
		p := planOf(t, c)
		l := places(p)
		slices.Sort(l)
		if len(l) != p.Size() {
			t.Errorf("%+v: %d cells, Size() = %d", c, len(l), p.Size())
		}
		for i, v := range l {
			if v != i {
				t.Errorf("%+v: the place %d stands where %d must be", c, v, i)
				break
			}
		}
	}
}

// P3.2: what the plan tells doesn't change by asking.
func TestPlacesStay(t *testing.T) {
	p, q := planOf(t, usual()), planOf(t, usual())
	first := places(p)
	p.Fresh()
	p.Slot(-1, -1, -1)
	if !slices.Equal(places(p), first) || !slices.Equal(places(q), first) {
		t.Error("the places of one configuration's plan are told unlike")
	}
}

// beyond are numbers that none of count things has.
func beyond(count int) []int {
	return []int{-1, -2, math.MinInt, math.MinInt + 1, count, count + 1, math.MaxInt - 1, math.MaxInt}
}

// P3.2: -1, if there is no such thing.
func TestNoPlace(t *testing.T) {
	for _, c := range shapes() {
		p := planOf(t, c)
		for _, x := range []struct {
			name  string
			ask   func(int) int
			count int
		}{
			{"Inbox", p.Inbox, c.Workers},
			{"Cur", p.Cur, c.Workers},
			{"Over", p.Over, c.Workers},
			{"State", p.State, c.Nodes},
			{"Home", p.Home, c.Nodes},
			{"User", p.User, c.Nodes},
			{"NodeLink", p.NodeLink, c.Nodes},
			{"Key", p.Key, c.Tickets},
			{"Time", p.Time, c.Tickets},
			{"TicketLink", p.TicketLink, c.Tickets},
			{"Conn", p.Conn, c.Conns},
			{"Map of the shard", func(s int) int { return p.Map(s, 0) }, c.Workers},
			{"Map of the level", func(v int) int { return p.Map(c.Workers-1, v) }, c.Levels},
			{"Map of both", func(i int) int { return p.Map(i, i) }, min(c.Workers, c.Levels)},
			{"Slot of the shard", func(s int) int { return p.Slot(s, 0, 0) }, c.Workers},
			{"Slot of the level", func(v int) int { return p.Slot(0, v, 0) }, c.Levels},
			{"Slot", func(i int) int { return p.Slot(0, 0, i) }, 1 << c.Bits},
			{"last Slot", func(i int) int { return p.Slot(c.Workers-1, c.Levels-1, i) }, 1 << c.Bits},
		} {
			for _, i := range beyond(x.count) {
				if got := x.ask(i); got != -1 {
					t.Errorf("%+v: %s(%d) = %d, want -1", c, x.name, i, got)
				}
			}
		}
	}
}

// fresh gives what the cells of a fresh arena must have, by their places.
func fresh(t *testing.T, p *plan.Plan) []uint64 {
	t.Helper()
	c := p.Config()
	l := make([]uint64, p.Size())
	idle, e := word.State{Gen: c.First, Time: 0, Status: word.Idle}.Word()
	head, f := word.Head{Count: 0, Index: 0}.Word()
	none, g := word.Head{Count: 0, Index: -1}.Word()
	if e != api.OK || f != api.OK || g != api.OK {
		t.Fatal(e, f, g)
	}
	l[p.Nodes()], l[p.Tickets()] = head, head
	for n := range c.Nodes {
		l[p.State(n)] = idle
		l[p.NodeLink(n)] = uint64(n + 2)
	}
	l[p.NodeLink(c.Nodes-1)] = 0
	for k := range c.Tickets {
		l[p.TicketLink(k)] = uint64(k + 2)
	}
	l[p.TicketLink(c.Tickets-1)] = 0
	for s := range c.Workers {
		l[p.Inbox(s)] = none
	}
	return l
}

// P3.3: what all cells have at first, without an access.
func TestFresh(t *testing.T) {
	for _, c := range shapes() {
		p := planOf(t, c)
		a := p.Fresh()
		if a == nil {
			t.Fatalf("%+v: no arena", c)
		}
		if a.Len() != p.Size() || a.Count() != 0 {
			t.Errorf("%+v: Len() = %d, Count() = %d", c, a.Len(), a.Count())
		}
		if !slices.Equal(a.All(), fresh(t, p)) {
			t.Errorf("%+v: the cells are not those of a fresh arena", c)
		}
	}
}

// P3.3: each cell of a small plan, one by one.
func TestFreshOne(t *testing.T) {
	c := plan.Of(least())
	c.First, c.Nodes, c.Tickets = api.MaxGen, 2, 3
	p := planOf(t, c)
	a := p.Fresh()
	for _, x := range []struct {
		name  string
		place int
		want  uint64
	}{
		{"Clock", p.Clock(), 0},
		{"Nodes", p.Nodes(), 1},
		{"Tickets", p.Tickets(), 1},
		{"Inbox", p.Inbox(0), 0},
		{"Cur", p.Cur(0), 0},
		{"Over", p.Over(0), 0},
		{"Map", p.Map(0, 0), 0},
		{"Slot", p.Slot(0, 0, 1), 0},
		{"State", p.State(0), api.MaxGen << 32},
		{"last State", p.State(1), api.MaxGen << 32},
		{"Home", p.Home(0), 0},
		{"User", p.User(0), 0},
		{"NodeLink", p.NodeLink(0), 2},
		{"last NodeLink", p.NodeLink(1), 0},
		{"Key", p.Key(0), 0},
		{"Time", p.Time(0), 0},
		{"TicketLink", p.TicketLink(0), 2},
		{"second TicketLink", p.TicketLink(1), 3},
		{"last TicketLink", p.TicketLink(2), 0},
	} {
		if got := a.Load(x.place); got != x.want {
			t.Errorf("%s: %#x, want %#x", x.name, got, x.want)
		}
	}
}

// P3.3: each arena is one of its own.
func TestFreshIsNew(t *testing.T) {
	p := planOf(t, usual())
	a := p.Fresh()
	for i := range a.Len() {
		a.Store(i, 77)
	}
	b := p.Fresh()
	if b.Count() != 0 || !slices.Equal(b.All(), fresh(t, p)) {
		t.Error("what is done in one arena is seen in another")
	}
}
