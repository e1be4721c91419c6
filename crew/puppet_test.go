package crew_test

import (
	"fmt"
	"slices"
	"testing"

	"squint/api"
)

// puppet is a process that tells what it is to tell, one pause after the other, and that is strict: what a crew may not do with it fails the test.
type puppet struct {
	t     *testing.T
	name  string
	plan  []api.Pause // what it tells; behind them it exits
	held  []int
	kids  []*puppet // its children, in their order
	at    api.Pause // where it is
	goes  bool
	calls *[]string // what was done, with all puppets of a crew
}

func newPuppet(t *testing.T, name string, plan ...api.Pause) *puppet {
	return &puppet{t: t, name: name, plan: plan, goes: true, calls: new([]string)}
}

// with gives it children.
func (x *puppet) with(kids ...*puppet) *puppet {
	x.kids = kids
	for _, kid := range kids {
		kid.share(x.calls)
	}
	return x
}

func (x *puppet) share(calls *[]string) {
	x.calls = calls
	for _, kid := range x.kids {
		kid.share(calls)
	}
}

func (x *puppet) holds(held ...int) *puppet {
	x.held = held
	return x
}

// did tells what was done since the last time it was asked.
func (x *puppet) did() []string {
	out := *x.calls
	*x.calls = nil
	return out
}

func (x *puppet) say(parts ...any) {
	*x.calls = append(*x.calls, x.name+" "+fmt.Sprint(parts...))
}

func (x *puppet) Run(cells, depth int) api.Pause {
	x.t.Helper()
	x.say("run ", cells, " ", depth)
	if !x.goes {
		x.t.Fatalf("%s is run, but stands at %v", x.name, x.at)
	}
	x.at = api.Pause{Kind: api.PExit}
	if len(x.plan) > 0 {
		x.at, x.plan = x.plan[0], x.plan[1:]
	}
	x.goes = x.at.Kind == api.PTick || x.at.Kind == api.PBorn
	return x.at
}

func (x *puppet) Give(v api.Value) {
	x.t.Helper()
	x.say("give ", v)
	if x.at.Kind != api.PMake || x.goes {
		x.t.Fatalf("%s is given %v, but stands at %v", x.name, v, x.at)
	}
	x.goes = true
}

func (x *puppet) Fire(arm int, v api.Value) {
	x.t.Helper()
	x.say("fire ", arm, " ", v)
	if x.at.Kind != api.PWait || x.goes || arm < 0 || arm >= len(x.at.Arms) {
		x.t.Fatalf("%s is fired %d, but stands at %v", x.name, arm, x.at)
	}
	x.goes = true
}

// Held answers the same list each time: it is not to be handed on.
func (x *puppet) Held() []int { return x.held }

func (x *puppet) Child(fn api.Value, args []api.Value) *puppet {
	x.t.Helper()
	x.say("child ", fn, " ", args)
	if x.at.Kind != api.PBorn || len(x.kids) == 0 {
		x.t.Fatalf("%s is to have a child, but stands at %v", x.name, x.at)
	}
	kid := x.kids[0]
	x.kids = x.kids[1:]
	return kid
}

// Clone says what it does in a list of its own.
func (x *puppet) Clone() *puppet {
	y := *x
	y.name += "'"
	y.calls = new([]string)
	y.kids = nil
	for _, kid := range x.kids {
		y.kids = append(y.kids, kid.Clone())
	}
	y.held = slices.Clone(x.held)
	return &y
}

func tick(cells int) api.Pause        { return api.Pause{Kind: api.PTick, Cells: cells} }
func makes(cells int) api.Pause       { return api.Pause{Kind: api.PMake, Cells: cells} }
func exits(cells int) api.Pause       { return api.Pause{Kind: api.PExit, Cells: cells} }
func traps(cells, code int) api.Pause { return api.Pause{Kind: api.PTrap, Cells: cells, Code: code} }
func overruns(cells, code int) api.Pause {
	return api.Pause{Kind: api.PSpent, Cells: cells, Code: code}
}
func wait(cells int, a ...api.Arm) api.Pause {
	return api.Pause{Kind: api.PWait, Cells: cells, Arms: a}
}
func begins(cells int, fn api.Value, args ...api.Value) api.Pause {
	return api.Pause{Kind: api.PBorn, Cells: cells, Fn: fn, Args: args}
}
