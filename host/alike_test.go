package host_test

import (
	"slices"
	"testing"

	"squint/api"
	"squint/build"
	"squint/check"
	"squint/crew"
	"squint/host"
	"squint/machine"
	"squint/parse"
	"squint/walk"
)

// tale is a run as the layers below tell it: of each pick its events.
type tale struct {
	src    string
	script api.Script
	events [][]api.Event
	spent  []bool // behind each pick
}

// all are the events of the first picks.
func (x tale) all(picks int) (out []api.Event) {
	for _, l := range x.events[:picks] {
		out = append(out, l...)
	}
	return out
}

func (x tale) result(picks int) api.Result {
	return api.Result{Events: x.all(picks), Spent: picks > 0 && x.spent[picks-1]}
}

// does makes the call of a crew that a pick asks for.
func does[P crew.Proc[P]](c *crew.Crew[P], p api.Pick, reap bool) []api.Event {
	switch {
	case p.Kind == 1:
		return c.Step(p.N)
	case p.Kind == 2:
		return c.In(p.N, p.V)
	case p.Kind == 3:
		return c.Out(p.N)
	case p.Kind == 4:
		return c.Probe(reap)
	case c.Spent():
		return nil
	}
	return []api.Event{{Kind: api.EvSkip}}
}

// machines and walks are the crews of a source.
func machines(t *testing.T, src string, l api.Limits) *crew.Crew[*machine.Machine] {
	t.Helper()
	nodes, fault := parse.Parse([]byte(src), l.Nest)
	unit, wrong := build.Build(nodes)
	if fault.Code != api.OK || wrong.Code != api.OK {
		t.Fatal(src, fault, wrong)
	}
	x, e := machine.New(unit)
	if e != api.OK {
		t.Fatal(src, e)
	}
	return crewOf(t, x, l)
}

func walks(t *testing.T, src string, l api.Limits) *crew.Crew[*walk.Walker] {
	t.Helper()
	nodes, fault := parse.Parse([]byte(src), l.Nest)
	x, wrong := walk.New(nodes)
	if fault.Code != api.OK || wrong.Code != api.OK {
		t.Fatal(src, fault, wrong)
	}
	return crewOf(t, x, l)
}

func crewOf[P crew.Proc[P]](t *testing.T, x P, l api.Limits) *crew.Crew[P] {
	t.Helper()
	c, e := crew.New(x, l)
	if e != api.OK {
		t.Fatal(l, e)
	}
	return c
}

// wander makes picks for a crew, as it goes on, and tells what they did.
func wander[P crew.Proc[P]](m *maker, src string, l api.Limits, c *crew.Crew[P], many int) tale {
	x := tale{src: src, script: api.Script{Limits: l, Reap: m.IntN(2) == 0}}
	for idle := 0; len(x.script.Picks) < many && idle < 9; {
		p := m.pick(c.Count())
		if c.Count() == 0 {
			idle++
		}
		x.script.Picks = append(x.script.Picks, p)
		x.events = append(x.events, does(c, p, x.script.Reap))
		x.spent = append(x.spent, c.Spent())
	}
	return x
}

// made is a run of a made program.
func (m *maker) made(t *testing.T, many int) tale {
	t.Helper()
	src, l := m.program(), m.limits()
	if m.IntN(2) == 0 {
		return wander(m, src, l, machines(t, src, l), many)
	}
	return wander(m, src, l, walks(t, src, l), many)
}

// P19.1, P19.2, P19.4, P19.6: made programs by made picks: Run and Walk tell what a crew of either tells, of all the picks and of a beginning of them.
func TestMade(t *testing.T) {
	m := newMaker(1)
	seen := map[[2]int]int{}
	for range 3000 {
		x := m.made(t, 80)
		many := len(x.script.Picks)
		hold(t, x.src, x.script, x.result(many), api.OK)
		for _, e := range x.all(many) {
			seen[[2]int{e.Kind}]++
			if e.Kind == api.EvTrap || e.Kind == api.EvSpent {
				seen[[2]int{e.Kind, e.Num}]++
			}
			if e.Kind == api.EvTrap && e.Num == api.TrapWrong {
				t.Errorf("%s: a wrong trap", x.src)
			}
		}
		s := x.script
		s.Picks = s.Picks[:m.IntN(many)]
		hold(t, x.src, s, x.result(len(s.Picks)), api.OK)
		if t.Failed() {
			t.FailNow()
		}
	}
	for kind := api.EvBorn; kind <= api.EvSpent; kind++ {
		if seen[[2]int{kind}] < 100 {
			t.Errorf("events of the kind %d: %d only", kind, seen[[2]int{kind}])
		}
	}
	for k := 1; k <= 6; k++ {
		if seen[[2]int{api.EvTrap, k}] < 3 && k < api.TrapWrong || seen[[2]int{api.EvSpent, k}] < 3 {
			t.Errorf("traps and limits of the number %d: too few", k)
		}
	}
}

// P19.6: each beginning of the picks.
func TestBeginnings(t *testing.T) {
	m := newMaker(2)
	for range 60 {
		x := m.made(t, 40)
		for many := range len(x.script.Picks) + 1 {
			s := x.script
			s.Picks = s.Picks[:many]
			hold(t, x.src, s, x.result(many), api.OK)
		}
	}
}

// P19.4, W2: each limit, from its least value on: both runs tell the same, and that is what is told with great limits, up to where it is passed.
func TestEachLimit(t *testing.T) {
	m := newMaker(6)
	for range 60 {
		x := m.made(t, 40)
		s := x.script
		s.Limits = api.Limits{Procs: 300, Live: 100, Chans: 300, Ticks: 500, Cells: 5000, Depth: 60, Nest: 1000}
		great, e := host.Run([]byte(x.src), s)
		hold(t, x.src, s, great, e)
		for counter := range 6 {
			for n := range 25 {
				l := s
				l.Limits = turned(s.Limits, counter, n)
				if crew.Check(l.Limits) != api.OK {
					continue
				}
				small, e := host.Run([]byte(x.src), l)
				hold(t, x.src, l, small, e)
				told := small.Events
				if last := len(told) - 1; small.Spent && told[last].Kind == api.EvSpent {
					told = told[:last]
				}
				if !begins(great.Events, told) {
					t.Fatalf("%s\n by %v:\n %v\n with great limits: %v", x.src, l, small, great)
				}
				if !small.Spent {
					break
				}
			}
		}
	}
}

// begins tells whether events begin with others.
func begins(l, with []api.Event) bool {
	return len(with) <= len(l) && show(api.Result{Events: l[:len(with)]}, 0) == show(api.Result{Events: with}, 0)
}

// parts are the processes that have a part in an event, but for EvProbe and EvReap.
func parts(e api.Event) []int {
	switch e.Kind {
	case api.EvBorn, api.EvMeet:
		return []int{e.P, e.Q}
	case api.EvIn:
		return []int{e.Q}
	case api.EvOut, api.EvExit, api.EvTrap, api.EvSpent:
		return []int{e.P}
	}
	return nil
}

// holdSound: W4: whoever was reported dead has a part in nothing any more, and is in each later report, or, with reaping, in none.
func holdSound(t *testing.T, x tale, l []api.Event, reap bool) {
	t.Helper()
	dead := map[int]bool{}
	for _, e := range l {
		for _, id := range parts(e) {
			if dead[id] {
				t.Fatalf("%s: the dead %d has a part in %v: %v", x.src, id, e, l)
			}
		}
		if e.Kind != api.EvProbe {
			continue
		}
		again := 0
		for _, id := range e.List {
			if dead[id] {
				again++
			}
		}
		if reap && again > 0 || !reap && again < len(dead) {
			t.Fatalf("%s: %d of %d dead ones are in a later report: %v", x.src, again, len(dead), l)
		}
		for _, id := range e.List {
			dead[id] = true
		}
	}
}

// W4, W6: the dead stay dead, and that they are reaped is not seen, up to where the run without reaping passes a limit.
func TestReapingIsNotSeen(t *testing.T) {
	m := newMaker(5)
	many := 0
	for range 1500 {
		x := m.made(t, 60)
		s := x.script
		s.Reap = false
		kept, _ := host.Run([]byte(x.src), s)
		s.Reap = true
		reaped, _ := host.Run([]byte(x.src), s)
		holdSound(t, x, kept.Events, false)
		holdSound(t, x, reaped.Events, true)
		without := slices.DeleteFunc(slices.Clone(reaped.Events), func(e api.Event) bool { return e.Kind == api.EvReap })
		if kept.Spent {
			without = without[:min(len(without), len(kept.Events)-1)]
			kept.Events = kept.Events[:len(kept.Events)-1]
		}
		known := map[int]bool{}
		for k, e := range kept.Events {
			fresh := slices.DeleteFunc(slices.Clone(e.List), func(id int) bool { return known[id] })
			for _, id := range fresh {
				known[id] = true
				many++
			}
			e.List = fresh
			if k >= len(without) || show(api.Result{Events: []api.Event{e}}, 0) != show(api.Result{Events: without[k : k+1]}, 0) {
				t.Fatalf("%s\n by %v: event %d:\n %v\n %v", x.src, s, k, kept.Events, without)
			}
		}
	}
	if many < 200 {
		t.Errorf("dead ones: %d only", many)
	}
}

// fault is what parse and check say of a source.
func fault(src string, nest int) api.Fault {
	nodes, f := parse.Parse([]byte(src), nest)
	if f.Code == api.OK {
		_, _, f = check.Check(nodes)
	}
	return f
}
