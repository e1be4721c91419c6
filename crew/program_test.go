package crew_test

import (
	"testing"

	"squint/api"
	"squint/crew"
)

// face is what is called, of a crew of whatever processes.
type face interface {
	Count() int
	Step(n int) []api.Event
	In(n, v int) []api.Event
	Out(n int) []api.Event
	Probe(reap bool) []api.Event
	Rows() []api.Row
	Agents() []api.Agent
	Counts() api.Counts
	Spent() bool
}

// act is a call, with what it is to answer.
type act func(t *testing.T, c face)

func step(n int, want ...api.Event) act {
	return func(t *testing.T, c face) { t.Helper(); told(t, "Step", c.Step(n), want...) }
}
func sent(n, v int, want ...api.Event) act {
	return func(t *testing.T, c face) { t.Helper(); told(t, "In", c.In(n, v), want...) }
}
func taken(n int, want ...api.Event) act {
	return func(t *testing.T, c face) { t.Helper(); told(t, "Out", c.Out(n), want...) }
}
func probed(want ...api.Event) act {
	return func(t *testing.T, c face) { t.Helper(); told(t, "Probe", c.Probe(false), want...) }
}
func reaping(want ...api.Event) act {
	return func(t *testing.T, c face) { t.Helper(); told(t, "Probe, with reaping", c.Probe(true), want...) }
}
func count(want int) act {
	return func(t *testing.T, c face) { t.Helper(); same(t, "Count", c.Count(), want) }
}
func counts(procs, live, chans, ticks, cells int) act {
	return func(t *testing.T, c face) {
		t.Helper()
		same(t, "Counts", c.Counts(), api.Counts{Procs: procs, Live: live, Chans: chans, Ticks: ticks, Cells: cells})
	}
}
func over(want bool) act {
	return func(t *testing.T, c face) { t.Helper(); same(t, "Spent", c.Spent(), want) }
}
func rows(want ...api.Row) act {
	return func(t *testing.T, c face) { t.Helper(); same(t, "Rows", c.Rows(), want) }
}

// play does acts with a crew of machines and with a crew of walks of one source.
func play(t *testing.T, src string, l api.Limits, acts ...act) {
	t.Helper()
	playOn(t, src, machines(t, src, l), acts)
	playOn(t, src, walks(t, src, l), acts)
}

func playOn[P crew.Proc[P]](t *testing.T, src string, c *crew.Crew[P], acts []act) {
	t.Helper()
	t.Logf("%T: %s", c, src)
	for _, one := range acts {
		one(t, c)
	}
}

func limited(turn func(l *api.Limits)) api.Limits {
	l := hundred()
	turn(&l)
	return l
}

// The chapter's examples: P16.3, P16.4, P16.5, P16.6 and P16.11.
func TestExamples(t *testing.T) {
	play(t, "val c = make chan of int; begin prog() { c <-= 7; }(); <-c;", hundred(),
		count(1), step(0, born(0, 1)), count(1), step(0), count(1), step(0, meet(1, 0, 0, 0, 3)), count(2))
	play(t, "<-input;", hundred(), step(0), step(0, idle()), sent(1, 5, skip()), sent(0, 5, in(0, 0, 5)), step(0, exit(0)), step(0, idle()))
	play(t, "val c = make chan of int; <-c;", hundred(), step(0), probed(probe(0)), reaping(probe(0), reap(0)), reaping(probe()), rows(reaped(0)))
	play(t, "val c = make chan of int;", limited(func(l *api.Limits) { l.Chans = 0 }), step(0, spent(0, api.SpentChans)), step(0), over(true))
	play(t, "while true { }", limited(func(l *api.Limits) { l.Ticks = 2 }), step(0), step(0), over(false), step(0, spent(0, api.SpentTicks)), over(true))
}

// The examples of the whole that run.
func TestExamplesOfTheWhole(t *testing.T) {
	play(t, "val c = make chan of int; begin prog() { c <-= 7; }(); val x = <-c; output <-= x;", hundred(),
		step(0, born(0, 1)), step(0), step(0, meet(1, 0, 0, 0, 3)), step(0), taken(0, out(0, 0, 7)), step(0, exit(0)), step(0, exit(1)), step(0, idle()), counts(2, 0, 1, 0, 2))
	play(t, "<-input;", hundred(), step(0), probed(probe()), reaping(probe()), rows(waits(0, hands(receives(1)), 1, 2)))
	play(t, "val c = make chan of int; begin prog() { c <-= 1; }(); while true { }", hundred(),
		step(0, born(0, 1)), step(1), probed(probe()), step(0), reaping(probe()), rows(ready(0, 1, 2, 3), waits(1, hands(sends(3)), 3)))
	play(t, "{ val c = make chan of int; begin prog() { c <-= 1; }(); } while true { }", hundred(),
		step(0, born(0, 1)), probed(probe()), step(1), probed(probe(1)), rows(ready(0, 1, 2), waits(1, hands(sends(3)), 3)), reaping(probe(1), reap(1)), rows(ready(0, 1, 2), reaped(1)))
	play(t, "val a = [1, 2]; output <-= a[2];", hundred(), step(0, trap(0, api.TrapIndex)), rows(ended(0)), counts(1, 0, 0, 0, 3))
	play(t, "select { case input <-= 1 { } case <-input { } }", hundred(), step(0), step(0, idle()), sent(1, 4, skip()), sent(0, 4, in(0, 1, 4)), step(0, exit(0)))
	play(t, "begin prog() { }();", limited(func(l *api.Limits) { l.Procs = 1 }), step(0, spent(0, api.SpentProcs)), over(true))
}

// What is counted, P16.11: programs at each limit, and one beyond it.
func TestProgramsAtLimits(t *testing.T) {
	three := "val f = prog() { <-input; }; begin f(); begin f(); begin f();"
	play(t, three, limited(func(l *api.Limits) { l.Procs = 4 }), step(0, born(0, 1), born(0, 2), born(0, 3), exit(0)), over(false), counts(4, 3, 0, 0, 2))
	play(t, three, limited(func(l *api.Limits) { l.Procs = 3 }), step(0, born(0, 1), born(0, 2), spent(0, api.SpentProcs)), over(true), counts(3, 3, 0, 0, 2), rows(ready(0), ready(1, 1), ready(2, 1)))
	play(t, three, limited(func(l *api.Limits) { l.Live = 4 }), step(0, born(0, 1), born(0, 2), born(0, 3), exit(0)), over(false))
	play(t, three, limited(func(l *api.Limits) { l.Live = 3 }), step(0, born(0, 1), born(0, 2), spent(0, api.SpentLive)), over(true))
	play(t, three, limited(func(l *api.Limits) { l.Procs, l.Live = 2, 2 }), step(0, born(0, 1), spent(0, api.SpentProcs)))
	play(t, three, limited(func(l *api.Limits) { l.Procs, l.Live = 3, 2 }), step(0, born(0, 1), spent(0, api.SpentLive)))

	two := "val a = make chan of int; val b = make chan of bool; val e = a == a;"
	play(t, two, limited(func(l *api.Limits) { l.Chans = 2 }), step(0, exit(0)), counts(1, 0, 2, 0, 0))
	play(t, two, limited(func(l *api.Limits) { l.Chans = 1 }), step(0, spent(0, api.SpentChans)), counts(1, 1, 1, 0, 0), rows(ready(0)))

	play(t, "val t = (1, 2); begin prog() { val u = (3, 4, 5); }(); val a = [6];", limited(func(l *api.Limits) { l.Cells = 10 }), step(0, born(0, 1), exit(0)), counts(2, 1, 0, 0, 6), step(0, exit(1)), counts(2, 0, 0, 0, 10))
	play(t, "val t = (1, 2); begin prog() { val u = (3, 4, 5); }(); val a = [6];", limited(func(l *api.Limits) { l.Cells = 9 }), step(0, born(0, 1), exit(0)), step(0, spent(1, api.SpentCells)), counts(2, 1, 0, 0, 6), rows(ended(0), ready(1)))
	play(t, "val t = (1, 2); begin prog() { val u = (3, 4, 5); }(); val a = [6];", limited(func(l *api.Limits) { l.Cells = 5 }), step(0, born(0, 1), spent(0, api.SpentCells)), counts(2, 2, 0, 0, 4), rows(ready(0), ready(1)))

	deep := "val f = prog g(n: int) { if n > 1 { g(n - 1); } }; f(3);"
	play(t, deep, limited(func(l *api.Limits) { l.Depth = 4 }), step(0), step(0), step(0), step(0, exit(0)), counts(1, 0, 0, 3, 1))
	play(t, deep, limited(func(l *api.Limits) { l.Depth = 3 }), step(0), step(0), step(0, spent(0, api.SpentDepth)), counts(1, 1, 0, 2, 1), rows(ready(0)))
	play(t, deep, limited(func(l *api.Limits) { l.Ticks = 2 }), step(0), step(0), step(0, spent(0, api.SpentTicks)), counts(1, 1, 0, 2, 1), rows(ready(0)))
	// The call's limit comes ahead of its tick.
	play(t, deep, limited(func(l *api.Limits) { l.Depth, l.Ticks = 3, 2 }), step(0), step(0), step(0, spent(0, api.SpentDepth)))
}

// P16.3, P16.6: channels are sent, too: who receives one holds it from then on, and whoever waited on it is not dead.
func TestChannelsSent(t *testing.T) {
	src := "val d = make chan of chan of int; begin prog() { val c = make chan of int; d <-= c; c <-= 5; }(); val e = <-d; output <-= <-e;"
	play(t, src, hundred(),
		step(0, born(0, 1)), step(0), rows(waits(0, hands(receives(3)), 1, 2, 3), waits(1, hands(sends(3)), 3, 4)),
		probed(probe()), step(0, meet(1, 0, 0, 0, 3)), rows(ready(0, 1, 2, 3, 4), ready(1, 3, 4)),
		step(1), step(0), rows(waits(0, hands(receives(4)), 1, 2, 3, 4), waits(1, hands(sends(4)), 3, 4)),
		step(0, meet(1, 0, 0, 0, 4)), step(0), taken(0, out(0, 0, 5)), step(1, exit(1)), step(0, exit(0)))
}

// P16.5, P16.9: a ring of two is dead while the first process goes on; what is born later has other numbers.
func TestRing(t *testing.T) {
	src := "{ val a = make chan of int; val b = make chan of int; begin prog() { <-a; b <-= 1; }(); begin prog() { <-b; a <-= 1; }(); } while true { begin prog() { }(); }"
	play(t, src, hundred(),
		step(0, born(0, 1), born(0, 2), born(0, 3)), step(1), probed(probe()), step(1), probed(probe(1, 2)),
		reaping(probe(1, 2), reap(1), reap(2)), count(2), step(0, born(0, 4)), step(1, exit(3)), step(1, exit(4)), reaping(probe()),
		rows(ready(0, 1, 2), reaped(1), reaped(2), ended(3), ended(4)), counts(5, 1, 2, 2, 8))
}

// P16.4: a unit whose arm sends a bool to the world.
func TestBoolToTheWorld(t *testing.T) {
	u := api.Unit{Progs: []api.Prog{{Caps: 2, Code: []api.Ins{{Op: api.ICap, A: 1}, {Op: api.IBool, A: 1}, {Op: api.IWait, List: []int{1, 3}}, {Op: api.IRet}}}}}
	c := crewOf(t, ofUnit(t, u), hundred())
	playOn(t, "a unit", c, []act{step(0), rows(waits(0, hands(sends(2)), 1, 2)), taken(0, out(0, 0, 0)), step(0, exit(0))})
}

// What is counted: so many processes as the greatest limit allows are born, one after the other.
func TestManyBorn(t *testing.T) {
	c := machines(t, "val f = prog() { }; while true { begin f(); }", vast())
	want := api.Counts{Procs: 1, Live: 1, Cells: 1}
	for k := 1; k < api.MaxLimit; k++ {
		l := c.Step(0)
		if len(l) != 1 || l[0].Q != k {
			t.Fatalf("the birth of %d: %v", k, l)
		}
		if l = c.Step(1); len(l) != 1 || l[0].P != k || l[0].Kind != api.EvExit {
			t.Fatalf("the end of %d: %v", k, l)
		}
	}
	want.Procs, want.Ticks = api.MaxLimit, api.MaxLimit-1
	same(t, "Counts", c.Counts(), want)
	told(t, "one more", c.Step(0), spent(0, api.SpentProcs))
	if l := c.Rows(); len(l) != api.MaxLimit || l[0].State != api.StReady || l[len(l)-1].State != api.StEnded {
		t.Error("Rows", len(l))
	}
}

// What is counted: so many processes live at a time as the greatest limit allows; all of them may be dead.
func TestManyLive(t *testing.T) {
	c := machines(t, "{ val c = make chan of int; val f = prog() { <-c; }; while true { begin f(); } }", vast())
	for range api.MaxAgents - 1 {
		c.Step(0)
		told(t, "one waits", c.Step(1))
	}
	same(t, "Live", c.Counts().Live, api.MaxAgents)
	told(t, "Probe", c.Probe(true), probe())
	d := c.Clone()
	told(t, "one more", c.Step(0), spent(0, api.SpentLive))
	same(t, "Agents", len(d.Agents()), api.MaxAgents)
}
