package crew_test

import (
	"fmt"
	"maps"
	"slices"
	"testing"

	"squint/api"
	"squint/crew"
)

// parts are the processes that have a part in an event, but for EvProbe and EvReap.
func parts(e api.Event) []int {
	switch e.Kind {
	case api.EvBorn, api.EvMeet:
		return []int{e.P, e.Q}
	case api.EvIn:
		return []int{e.Q}
	case api.EvOut, api.EvExit, api.EvTrap, api.EvSpent:
		return []int{e.P}
	}
	return nil
}

// eachCrew makes actors and programs.
func eachCrew(m *maker, many int, actors func(name string, c *actor), programs func(src string)) {
	for k := range many {
		actors(fmt.Sprint("actor ", k), newActor(m.Uint64(), 1+m.IntN(12)))
		if k%3 == 0 {
			programs(m.program())
		}
	}
}

// testNumbers: P16.8: births have the next number each; nobody else has a part in anything; whoever has ended, or was reaped, stays so; of Counts all but Live only rise.
func testNumbers[P crew.Proc[P]](t *testing.T, m *maker, name string, c *crew.Crew[P]) (births int) {
	t.Helper()
	was, rows := c.Counts(), c.Rows()
	for range 60 {
		for _, e := range m.choose(c.Count()).do(c, m.IntN(2) == 0) {
			if e.Kind == api.EvBorn {
				births++
				same(t, name+": who is born", e.Q, births)
			}
			for _, id := range append(parts(e), e.List...) {
				if id < 0 || id > births {
					t.Fatalf("%s: %d, of 0 to %d, has a part in %v", name, id, births, e)
				}
			}
		}
		now, after := c.Counts(), c.Rows()
		same(t, name+": Procs", now.Procs, births+1)
		same(t, name+": Rows", len(after), now.Procs)
		if now.Procs < was.Procs || now.Chans < was.Chans || now.Ticks < was.Ticks || now.Cells < was.Cells {
			t.Fatalf("%s: Counts %v, then %v", name, was, now)
		}
		live := 0
		for id, row := range after {
			same(t, name+": Id", row.Id, id)
			if row.State == api.StReady || row.State == api.StWaits {
				live++
			}
			if id < len(rows) && rows[id].State >= api.StEnded {
				same(t, name+": one that was gone", row, rows[id])
			}
		}
		same(t, name+": Live", now.Live, live)
		was, rows = now, after
	}
	return births
}

func TestNumbers(t *testing.T) {
	m := newMaker(3)
	births := 0
	eachCrew(m, 300, func(name string, x *actor) {
		births += testNumbers(t, m, name, crewOf(t, x, m.limits()))
	}, func(src string) {
		births += testNumbers(t, m, src, machines(t, src, m.limits()))
	})
	if births < 1000 {
		t.Error("births:", births)
	}
}

// testSound: P16.9: whoever was in a List has a part in nothing but EvProbe and EvReap; without reaping it is in each later List, with it in none.
func testSound[P crew.Proc[P]](t *testing.T, m *maker, name string, c *crew.Crew[P], reap bool) int {
	t.Helper()
	dead := map[int]int{}
	for range 80 {
		events := m.choose(c.Count()).do(c, reap)
		for _, e := range events {
			for _, id := range parts(e) {
				if dead[id] > 0 {
					t.Fatalf("%s: %d was dead, and has a part in %v", name, id, e)
				}
			}
			if e.Kind != api.EvProbe {
				continue
			}
			for _, id := range e.List {
				if reap && dead[id] > 0 {
					t.Fatalf("%s: %d is dead again: %v", name, id, e)
				}
				dead[id]++
			}
			for id := range dead {
				if !reap && !slices.Contains(e.List, id) {
					t.Fatalf("%s: %d was dead, and is not: %v", name, id, e)
				}
			}
		}
		if reap {
			testReaped(t, name, events, c.Rows())
		}
	}
	return len(dead)
}

// testReaped holds EvReaps against the List ahead of them, and against how they stand then.
func testReaped(t *testing.T, name string, events []api.Event, rows []api.Row) {
	t.Helper()
	if len(events) == 0 || events[0].Kind != api.EvProbe {
		return
	}
	want := events[:1:1]
	for _, id := range events[0].List {
		want = append(want, reap(id))
		same(t, name+": one that was reaped", rows[id], reaped(id))
	}
	told(t, name, events, want...)
}

func TestSound(t *testing.T) {
	m := newMaker(4)
	dead := 0
	eachCrew(m, 300, func(name string, x *actor) {
		dead += testSound(t, m, name, crewOf(t, x.Clone(), m.limits()), true) + testSound(t, m, name, crewOf(t, x, m.limits()), false)
	}, func(src string) {
		dead += testSound(t, m, src, machines(t, src, m.limits()), true) + testSound(t, m, src, walks(t, src, m.limits()), false)
	})
	if dead < 500 {
		t.Error("dead:", dead)
	}
}

// small are programs of which all runs of a few calls are gone through.
var small = []string{
	"val c = make chan of int; begin prog() { c <-= 7; }(); <-c;",
	"{ val a = make chan of int; val b = make chan of int; begin prog() { <-a; b <-= 1; }(); begin prog() { <-b; a <-= 1; }(); } <-input; output <-= 1;",
	"val d = make chan of chan of int; begin prog() { val c = make chan of int; d <-= c; c <-= 5; }(); begin prog() { val e = <-d; <-e; }(); select { case e = <-d { <-e; } case <-input { } }",
	"val f = prog(c: chan of int) { select { case <-c { } case c <-= 1 { } case <-input { } } }; val c = make chan of int; begin f(c); begin f(c); begin f(make chan of int);",
	"val d = make chan of chan of int; { val c = make chan of int; begin prog() { <-c; }(); begin prog() { select { case d <-= c { } case <-input { } } }(); } <-d; while true { }",
}

// every goes through all calls that do something, so deep, and lets see each crew that they lead to, with what was dead on the way there.
func every[P crew.Proc[P]](c *crew.Crew[P], deep int, dead map[int]int, see func(events []api.Event, dead map[int]int)) {
	if deep == 0 {
		return
	}
	var calls []choice
	for n := range c.Count() {
		calls = append(calls, choice{Kind: api.PickStep, N: n})
	}
	for n := range 3 {
		calls = append(calls, choice{Kind: api.PickIn, N: n, V: 1}, choice{Kind: api.PickOut, N: n})
	}
	dead = maps.Clone(dead)
	probe := c.Probe(false)
	see(probe, dead)
	for _, e := range probe {
		for _, id := range e.List {
			dead[id]++
		}
	}
	for _, one := range calls {
		next := c.Clone()
		events := one.do(next, false)
		if len(events) > 0 && events[0].Kind == api.EvSkip {
			continue
		}
		see(events, dead)
		every(next, deep-1, dead, see)
	}
}

// P16.9: whatever is called: all runs of small programs.
func TestSoundEverywhere(t *testing.T) {
	seen, gone := 0, 0
	for _, src := range small {
		every(machines(t, src, hundred()), 10, map[int]int{}, func(events []api.Event, dead map[int]int) {
			seen++
			gone += min(1, len(dead))
			for _, e := range events {
				for _, id := range parts(e) {
					if dead[id] > 0 {
						t.Fatalf("%s: %d was dead, and has a part in %v", src, id, e)
					}
				}
				for id := range dead {
					if e.Kind == api.EvProbe && !slices.Contains(e.List, id) {
						t.Fatalf("%s: %d was dead, and is not: %v", src, id, e)
					}
				}
			}
		})
	}
	if seen < 2000 || gone < 200 {
		t.Error("seen:", seen, "with somebody dead:", gone)
	}
}

// testUnseen: P16.10: of two crews of clones with the same calls, one reaping, the events are the same but for EvReap and what earlier Lists had, up to where the one that does not reap is spent.
func testUnseen[P crew.Proc[P]](t *testing.T, m *maker, name string, x P, l api.Limits) (many, spent int) {
	t.Helper()
	y := x.Clone()
	c, d := crewOf(t, x, l), crewOf(t, y, l)
	early := map[int]int{}
	for range 80 {
		same(t, name+": Count", d.Count(), c.Count())
		call := m.choose(c.Count())
		kept, reaped := call.do(c, false), call.do(d, true)
		var want []api.Event
		for _, e := range kept {
			e.List = slices.DeleteFunc(slices.Clone(e.List), func(id int) bool { return early[id] > 0 })
			want = append(want, e)
		}
		for _, e := range kept {
			for _, id := range e.List {
				early[id]++
			}
		}
		if c.Spent() {
			return len(early), 1
		}
		told(t, name, slices.DeleteFunc(reaped, func(e api.Event) bool { return e.Kind == api.EvReap }), want...)
		counts := c.Counts()
		counts.Live -= len(early)
		same(t, name+": Counts", d.Counts(), counts)
	}
	return len(early), 0
}

func TestReapingIsNotSeen(t *testing.T) {
	m := newMaker(5)
	many, passed := 0, 0
	add := func(dead, spent int) { many, passed = many+dead, passed+spent }
	eachCrew(m, 300, func(name string, x *actor) {
		add(testUnseen(t, m, name, x, m.limits()))
	}, func(src string) {
		add(testUnseen(t, m, src, firstMachine(t, src), m.limits()))
		add(testUnseen(t, m, src, firstWalk(t, src), m.limits()))
	})
	if many < 400 || passed < 40 {
		t.Error("dead:", many, "spent:", passed)
	}
}

// calls are what may be called of a crew, one after the other; none of them hangs on how it stands.
func (m *maker) calls(many int) (out []choice) {
	for range many {
		out = append(out, m.choose(1+m.IntN(4)))
	}
	return out
}

// tale is what calls tell, call by call, and what was counted at last.
func tale[P crew.Proc[P]](x P, l api.Limits, calls []choice) (events [][]api.Event, counts api.Counts) {
	c, _ := crew.New(x, l)
	for _, call := range calls {
		events = append(events, call.do(c, false))
	}
	return events, c.Counts()
}

// mostLive tells by what was told how many lived at most.
func mostLive(events [][]api.Event) int {
	live, most := 1, 1
	for _, e := range slices.Concat(events...) {
		switch e.Kind {
		case api.EvBorn:
			live++
		case api.EvExit, api.EvTrap:
			live--
		}
		most = max(most, live)
	}
	return most
}

// testAtLimit: P16.11: with a smaller limit the events are the same, up to where more would be counted than it: there is the EvSpent; with one that is not passed all are.
func testAtLimit[P crew.Proc[P]](t *testing.T, name string, x P, calls []choice, limit, used int, turn func(l *api.Limits) *int) {
	t.Helper()
	want, _ := tale(x.Clone(), vast(), calls)
	for _, most := range []int{1, 2, used - 1, used, used + 1} {
		l := vast()
		if most < 1 {
			continue
		}
		*turn(&l) = most
		got, counts := tale(x.Clone(), l, calls)
		if most >= used {
			same(t, fmt.Sprint(name, ": with the limit ", limit, " at ", most), got, want)
			continue
		}
		for _, pass := range []struct{ n, most int }{{counts.Procs, l.Procs}, {counts.Live, l.Live}, {counts.Chans, l.Chans}, {counts.Ticks, l.Ticks}, {counts.Cells, l.Cells}} {
			if pass.n > pass.most {
				t.Fatalf("%s: Counts %v pass %v", name, counts, l)
			}
		}
		testPrefix(t, fmt.Sprint(name, ": with the limit ", limit, " at ", most), got, want, limit)
	}
}

// testPrefix tells whether what was told is the beginning of what else would be, and then an EvSpent.
func testPrefix(t *testing.T, name string, got, want [][]api.Event, limit int) {
	t.Helper()
	for k, events := range got {
		if fmt.Sprint(events) == fmt.Sprint(want[k]) {
			continue
		}
		n := len(events) - 1
		if n < 0 || events[n].Kind != api.EvSpent || events[n].Num != limit || n > len(want[k]) || fmt.Sprint(events[:n]) != fmt.Sprint(want[k][:n]) {
			t.Fatalf("%s: %v, not %v up to its limit", name, events, want[k])
		}
		for _, after := range got[k+1:] {
			told(t, name+": later", after)
		}
		return
	}
	t.Fatalf("%s: it is not spent: %v", name, got)
}

func testAtLimits[P crew.Proc[P]](t *testing.T, name string, x P, calls []choice) (counts api.Counts) {
	t.Helper()
	events, counts := tale(x.Clone(), vast(), calls)
	testAtLimit(t, name, x, calls, api.SpentProcs, counts.Procs, func(l *api.Limits) *int { return &l.Procs })
	testAtLimit(t, name, x, calls, api.SpentLive, mostLive(events), func(l *api.Limits) *int { return &l.Live })
	testAtLimit(t, name, x, calls, api.SpentChans, counts.Chans, func(l *api.Limits) *int { return &l.Chans })
	testAtLimit(t, name, x, calls, api.SpentTicks, counts.Ticks, func(l *api.Limits) *int { return &l.Ticks })
	testAtLimit(t, name, x, calls, api.SpentCells, counts.Cells, func(l *api.Limits) *int { return &l.Cells })
	return counts
}

// P16.11: an EvSpent is told just when the next thing to be counted would pass.
func TestAtLimits(t *testing.T) {
	m := newMaker(6)
	var sum api.Counts
	add := func(c api.Counts) {
		sum = api.Counts{Procs: sum.Procs + c.Procs, Chans: sum.Chans + c.Chans, Ticks: sum.Ticks + c.Ticks, Cells: sum.Cells + c.Cells}
	}
	eachCrew(m, 100, func(name string, x *actor) {
		add(testAtLimits(t, name, x, m.calls(40)))
	}, func(src string) {
		add(testAtLimits(t, src, firstMachine(t, src), m.calls(40)))
		add(testAtLimits(t, src, firstWalk(t, src), m.calls(40)))
	})
	if sum.Procs < 500 || sum.Chans < 500 || sum.Ticks < 500 || sum.Cells < 500 {
		t.Error("counted:", sum)
	}
}

// W2, W3: crews of machines and crews of walks of one program, with the same calls, tell the same, and stand alike.
func TestMachinesAndWalks(t *testing.T) {
	m := newMaker(7)
	seen := map[int]int{}
	test := func(src string, l api.Limits) {
		c, d := machines(t, src, l), walks(t, src, l)
		for range 60 {
			call, reap := m.choose(c.Count()), m.IntN(2) == 0
			got := call.do(c, reap)
			told(t, src, call.do(d, reap), got...)
			same(t, src, stands(d), stands(c))
			for _, e := range got {
				seen[e.Kind]++
			}
		}
	}
	for _, src := range small {
		test(src, hundred())
	}
	for range 700 {
		test(m.program(), m.limits())
	}
	enough(t, seen, 40)
}
