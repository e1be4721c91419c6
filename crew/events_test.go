package crew_test

import (
	"fmt"
	"math"
	"testing"

	"squint/api"
	"squint/build"
	"squint/crew"
	"squint/machine"
	"squint/parse"
	"squint/walk"
)

const (
	least    = math.MinInt
	greatest = math.MaxInt
)

func born(p, q int) api.Event { return api.Event{Kind: api.EvBorn, P: p, Q: q} }
func meet(p, i, q, j, on int) api.Event {
	return api.Event{Kind: api.EvMeet, P: p, I: i, Q: q, J: j, Chan: on}
}
func in(q, j, v int) api.Event     { return api.Event{Kind: api.EvIn, Q: q, J: j, Num: v} }
func out(p, i, v int) api.Event    { return api.Event{Kind: api.EvOut, P: p, I: i, Num: v} }
func exit(p int) api.Event         { return api.Event{Kind: api.EvExit, P: p} }
func trap(p, code int) api.Event   { return api.Event{Kind: api.EvTrap, P: p, Num: code} }
func skip() api.Event              { return api.Event{Kind: api.EvSkip} }
func idle() api.Event              { return api.Event{Kind: api.EvIdle} }
func probe(dead ...int) api.Event  { return api.Event{Kind: api.EvProbe, List: dead} }
func reap(p int) api.Event         { return api.Event{Kind: api.EvReap, P: p} }
func spent(p, limit int) api.Event { return api.Event{Kind: api.EvSpent, P: p, Num: limit} }

// told holds what a call told against what it is to tell, all fields of it. (A nil list is an empty one.)
func told(t *testing.T, what string, got []api.Event, want ...api.Event) {
	t.Helper()
	if fmt.Sprint(got) != fmt.Sprint(want) {
		t.Fatalf("%s: %v, not %v", what, got, want)
	}
}

// same holds any two answers against each other.
func same(t *testing.T, what string, got, want any) {
	t.Helper()
	if fmt.Sprint(got) != fmt.Sprint(want) {
		t.Fatalf("%s: %v, not %v", what, got, want)
	}
}

func number(n int) api.Value  { return api.Value{Kind: api.VInt, Num: n} }
func channel(n int) api.Value { return api.Value{Kind: api.VChan, Num: n} }
func tuple(list ...api.Value) api.Value {
	return api.Value{Kind: api.VTuple, List: list}
}

// s is an arm that sends, r one that receives.
func s(on int, v api.Value) api.Arm { return api.Arm{Chan: on, Send: true, Value: v} }
func r(on int) api.Arm              { return api.Arm{Chan: on} }

// hundred are the limits of the chapter's examples.
func hundred() api.Limits {
	return api.Limits{Procs: 100, Live: 100, Chans: 100, Ticks: 100, Cells: 100, Depth: 10, Nest: 100}
}

// vast are limits that nothing small passes.
func vast() api.Limits {
	return api.Limits{Procs: 1 << 20, Live: 4096, Chans: 1 << 20, Ticks: 1 << 20, Cells: 1 << 20, Depth: 1 << 20, Nest: 65536}
}

// nodes is a source's tree.
func nodes(t *testing.T, src string) []api.Node {
	t.Helper()
	l, f := parse.Parse([]byte(src), api.MaxNest)
	if f.Code != api.OK {
		t.Fatalf("%s: parse's fault %v", src, f)
	}
	return l
}

// firstMachine and firstWalk are the first processes of a source.
func firstMachine(t *testing.T, src string) *machine.Machine {
	t.Helper()
	u, f := build.Build(nodes(t, src))
	if f.Code != api.OK {
		t.Fatalf("%s: build's fault %v", src, f)
	}
	return ofUnit(t, u)
}

func firstWalk(t *testing.T, src string) *walk.Walker {
	t.Helper()
	x, f := walk.New(nodes(t, src))
	if f.Code != api.OK {
		t.Fatalf("%s: walk's fault %v", src, f)
	}
	return x
}

func ofUnit(t *testing.T, u api.Unit) *machine.Machine {
	t.Helper()
	x, e := machine.New(u)
	if e != api.OK {
		t.Fatal("machine's error", e)
	}
	return x
}

func crewOf[P crew.Proc[P]](t *testing.T, first P, l api.Limits) *crew.Crew[P] {
	t.Helper()
	c, e := crew.New(first, l)
	if e != api.OK || c == nil {
		t.Fatalf("New with %v: %d", l, e)
	}
	return c
}

// machines and walks are crews of a source.
func machines(t *testing.T, src string, l api.Limits) *crew.Crew[*machine.Machine] {
	t.Helper()
	return crewOf(t, firstMachine(t, src), l)
}

func walks(t *testing.T, src string, l api.Limits) *crew.Crew[*walk.Walker] {
	t.Helper()
	return crewOf(t, firstWalk(t, src), l)
}

// standing is all that a crew tells of itself.
type standing struct {
	Count  int
	Rows   []api.Row
	Agents []api.Agent
	Counts api.Counts
	Spent  bool
}

func stands[P crew.Proc[P]](c *crew.Crew[P]) standing {
	return standing{c.Count(), c.Rows(), c.Agents(), c.Counts(), c.Spent()}
}

// ready, waits, ended and reaped are rows, agent is a row as an agent.
func ready(id int, held ...int) api.Row { return api.Row{Id: id, State: api.StReady, Held: held} }
func waits(id int, arms []api.Hand, held ...int) api.Row {
	return api.Row{Id: id, State: api.StWaits, Arms: arms, Held: held}
}
func ended(id int) api.Row              { return api.Row{Id: id, State: api.StEnded} }
func reaped(id int) api.Row             { return api.Row{Id: id, State: api.StReaped} }
func hands(list ...api.Hand) []api.Hand { return list }
func sends(on int) api.Hand             { return api.Hand{Chan: on, Send: true} }
func receives(on int) api.Hand          { return api.Hand{Chan: on} }
func agent(of api.Row) api.Agent {
	return api.Agent{Id: of.Id, Awake: of.State == api.StReady, Arms: of.Arms, Held: of.Held}
}

// testRows holds Rows against these, and Agents against those of them that are ready or wait.
func testRows[P crew.Proc[P]](t *testing.T, c *crew.Crew[P], want ...api.Row) {
	t.Helper()
	same(t, "Rows", c.Rows(), want)
	var agents []api.Agent
	for _, one := range want {
		if one.State == api.StReady || one.State == api.StWaits {
			agents = append(agents, agent(one))
		}
	}
	same(t, "Agents", c.Agents(), agents)
}
