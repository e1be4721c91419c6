package crew_test

import (
	"runtime"
	"slices"
	"testing"

	"squint/api"
	"squint/crew"
)

// gathered is a crew of one that begins these, and then does what it is to do; all of them have run once, by rising numbers, if they are to.
func gathered(t *testing.T, own []api.Pause, run []bool, kids ...*puppet) (*crew.Crew[*puppet], *puppet) {
	t.Helper()
	var plan []api.Pause
	var births []api.Event
	for k := range kids {
		plan = append(plan, begins(0, number(k+1)))
		births = append(births, born(0, k+1))
	}
	x := newPuppet(t, "0", append(plan, own...)...).holds(1, 2, 3, 4, 5).with(kids...)
	c := crewOf(t, x, hundred())
	told(t, "births", c.Step(0), births...)
	at := 0
	for _, one := range c.Rows() {
		if one.State != api.StReady {
			continue
		}
		if one.Id == 0 || !run[one.Id-1] {
			at++
			continue
		}
		told(t, "a first run", c.Step(at))
	}
	x.did()
	return c, x
}

// idler is a puppet that waits, once it has run, and exits at the next run.
func idler(t *testing.T, name string, arms ...api.Arm) *puppet {
	return newPuppet(t, name, wait(0, arms...)).holds(1, 2, 3, 4, 5)
}

// P16.3: transitions are numbered: who is ready, by rising numbers; then the pairs.
func TestOrder(t *testing.T) {
	seven, eight, nine := number(7), channel(8), tuple(number(1), channel(9))
	c, _ := gathered(t, []api.Pause{tick(0)}, []bool{true, false, true, true, false, true},
		idler(t, "1", r(3), s(4, seven)), idler(t, "2", r(3)), idler(t, "3", r(4), s(3, eight), s(3, nine)), idler(t, "4", s(4, eight), r(4)), newPuppet(t, "5", traps(0, 3)), idler(t, "6", r(5), r(0)))
	same(t, "Count", c.Count(), 8)
	want := [][]api.Event{
		{exit(0)}, {}, {trap(5, 3)},
		{meet(1, 1, 3, 0, 4)}, {meet(1, 1, 4, 1, 4)}, {meet(3, 1, 1, 0, 3)}, {meet(3, 2, 1, 0, 3)}, {meet(4, 0, 3, 0, 4)},
	}
	for n, events := range want {
		d := c.Clone()
		told(t, "the transition", d.Step(n), events...)
	}
	for _, n := range []int{8, 9, -1, -2, -8, greatest, least, least + 1, least + 2, least + 3} {
		told(t, "no transition", c.Step(n), skip())
		same(t, "Count", c.Count(), 8)
	}
	d := c.Clone()
	told(t, "2 waits", d.Step(1))
	same(t, "Count, with a pair more for each arm that sends on 3", d.Count(), 9)
	told(t, "3 sends to 2", d.Step(5), meet(3, 1, 2, 0, 3))
	testRows(t, d, ready(0, 1, 2, 3, 4, 5), waits(1, hands(receives(3), sends(4)), 1, 2, 3, 4, 5), ready(2, 1, 2, 3, 4, 5), ready(3, 1, 2, 3, 4, 5),
		waits(4, hands(sends(4), receives(4)), 1, 2, 3, 4, 5), ready(5), waits(6, hands(receives(5), receives(0)), 1, 2, 3, 4, 5))
}

// P16.3: Count has the pairs of all processes that wait, on each channel but nil, whoever stands ahead of whom; none has both its arms of one process.
func TestCountOfPairs(t *testing.T) {
	one, five := number(1), number(5)
	c, _ := gathered(t, []api.Pause{wait(0, s(3, one), s(3, five), r(3), r(4), s(0, one), r(0))}, []bool{true, true, true},
		idler(t, "1", r(3), r(3), r(3), s(4, one), s(-1, one), r(-1)), idler(t, "2", s(3, one), r(4), s(4, five), r(0), s(-1, one)), idler(t, "3", s(5, one), s(0, one), r(-1)))
	// On 3: 0 and 1 six, 2 and 1 three, 2 and 0 one; on 4: 1 and 0, 1 and 2, 2 and 0 one each.
	same(t, "Count", c.Count(), 13)
	for n := range 13 {
		if events := c.Clone().Step(n); len(events) != 1 || events[0].Kind != api.EvMeet {
			t.Errorf("the transition %d: %v", n, events)
		}
	}
	told(t, "no transition", c.Step(13), skip())
}

// P16.3, R1: of two that wait with many arms there are more pairs than could be laid out: they are counted all the same.
func TestCountOfManyPairs(t *testing.T) {
	arms := append(slices.Repeat([]api.Arm{s(3, number(1))}, 9000), slices.Repeat([]api.Arm{r(3)}, 8000)...)
	c, _ := gathered(t, []api.Pause{wait(0, arms...)}, []bool{true, false}, idler(t, "1", arms...), newPuppet(t, "2"))
	var ahead, then runtime.MemStats
	runtime.ReadMemStats(&ahead)
	same(t, "Count", c.Count(), 1+2*9000*8000)
	runtime.ReadMemStats(&then)
	if used := (then.TotalAlloc - ahead.TotalAlloc) >> 20; used > 100 {
		t.Errorf("%d MiB were used", used)
	}
}

// P16.3: of a pair the one that sends is fired first, with no value, then the other one with what is sent; both are ready, nobody else.
func TestMeet(t *testing.T) {
	nine := tuple(number(1), channel(9))
	c, x := gathered(t, []api.Pause{wait(0)}, []bool{true, true, true},
		idler(t, "1", r(4), r(3)), idler(t, "2", s(5, number(7)), s(3, nine)), idler(t, "3", s(3, number(6))))
	same(t, "Count", c.Count(), 2)
	told(t, "a meeting", c.Step(0), meet(2, 1, 1, 1, 3))
	same(t, "what was done", x.did(), []string{"2 fire 1 {0 0 []}", "1 fire 1 {4 0 [{1 1 []} {5 9 []}]}"})
	all := []int{1, 2, 3, 4, 5}
	testRows(t, c, waits(0, nil, all...), ready(1, all...), ready(2, all...), waits(3, hands(sends(3)), all...))
	same(t, "Count", c.Count(), 2)
	same(t, "Counts", c.Counts(), api.Counts{Procs: 4, Live: 4})
	told(t, "2 runs", c.Step(1), exit(2))
	told(t, "1 runs", c.Step(0), exit(1))
	same(t, "what was done", x.did(), []string{"2 run 100 10", "1 run 100 10"})
	told(t, "none is left", c.Step(0), idle())
}

// P16.3: nobody meets itself; arms on nil meet nobody; where there is no transition any number tells EvIdle.
func TestIdle(t *testing.T) {
	c, x := gathered(t, []api.Pause{wait(0, r(0), s(3, number(1)), r(3))}, []bool{true}, idler(t, "1", s(0, number(1)), r(4), s(4, number(1))))
	for _, n := range []int{0, 1, 2, -1, least, greatest} {
		same(t, "Count", c.Count(), 0)
		told(t, "no transition at all", c.Step(n), idle())
	}
	same(t, "what was done", x.did(), []string{})
}

// P16.4: the n-th of those that receive on In, by rising numbers of the process, then of the arm.
func TestIn(t *testing.T) {
	all := []int{1, 2, 3, 4, 5}
	c, x := gathered(t, []api.Pause{wait(0, r(1))}, []bool{true, true, true, false},
		idler(t, "1", r(3), r(2)), idler(t, "2", r(1), s(1, number(4)), r(3), r(1)), idler(t, "3", r(4), r(1)), idler(t, "4", r(1)))
	for n, want := range []api.Event{in(0, 0, 5), in(2, 0, 5), in(2, 3, 5), in(3, 1, 5)} {
		told(t, "In", c.Clone().In(n, 5), want)
	}
	for _, n := range []int{4, 5, -1, greatest, least} {
		told(t, "In of none", c.In(n, 5), skip())
	}
	same(t, "what was done", x.did(), []string{})
	told(t, "In", c.In(2, least), in(2, 3, least))
	same(t, "what was done", x.did(), []string{"2 fire 3 {1 -9223372036854775808 []}"})
	rows := []api.Row{waits(0, hands(receives(1)), all...), waits(1, hands(receives(3), receives(2)), all...), ready(2, all...), waits(3, hands(receives(4), receives(1)), all...), ready(4, all...)}
	testRows(t, c, rows...)
	told(t, "In of one that is ready", c.In(2, 0), skip())
	told(t, "In", c.In(1, greatest), in(3, 1, greatest))
	same(t, "what was done", x.did(), []string{"3 fire 1 {1 9223372036854775807 []}"})
	told(t, "In", c.In(0, 0), in(0, 0, 0))
	same(t, "what was done", x.did(), []string{"0 fire 0 {1 0 []}"})
	told(t, "In of none", c.In(0, 0), skip())
	same(t, "Counts", c.Counts(), api.Counts{Procs: 5, Live: 5})
}

// P16.4: the n-th of those that send on Out; of what is no number 0 is told.
func TestOut(t *testing.T) {
	all := []int{1, 2, 3, 4, 5}
	yes := api.Value{Kind: api.VBool, Num: 1}
	c, x := gathered(t, []api.Pause{wait(0, s(2, number(9)))}, []bool{true, true, true, false},
		idler(t, "1", r(2), s(3, number(1))), idler(t, "2", s(2, yes), r(2), s(1, number(4)), s(2, number(least))), idler(t, "3", r(4), s(2, channel(4)), s(2, tuple(number(6), number(7))), s(2, api.Value{})), idler(t, "4", s(2, number(1))))
	for n, want := range []api.Event{out(0, 0, 9), out(2, 0, 0), out(2, 3, least), out(3, 1, 0), out(3, 2, 0), out(3, 3, 0)} {
		told(t, "Out", c.Clone().Out(n), want)
	}
	for _, n := range []int{6, 7, -1, greatest, least} {
		told(t, "Out of none", c.Out(n), skip())
	}
	same(t, "what was done", x.did(), []string{})
	told(t, "Out", c.Out(2), out(2, 3, least))
	same(t, "what was done", x.did(), []string{"2 fire 3 {0 0 []}"})
	testRows(t, c, waits(0, hands(sends(2)), all...), waits(1, hands(receives(2), sends(3)), all...), ready(2, all...), waits(3, hands(receives(4), sends(2), sends(2), sends(2)), all...), ready(4, all...))
	told(t, "Out", c.Out(1), out(3, 1, 0))
	same(t, "what was done", x.did(), []string{"3 fire 1 {0 0 []}"})
	told(t, "Out", c.Out(0), out(0, 0, 9))
	told(t, "Out of none", c.Out(0), skip())
	same(t, "Counts", c.Counts(), api.Counts{Procs: 5, Live: 5})
}

// P16.3, P16.4: what may meet the world may also meet another one: the two are picked by other calls.
func TestWorldAndMeet(t *testing.T) {
	c, _ := gathered(t, []api.Pause{wait(0, r(1), r(2))}, []bool{true}, idler(t, "1", s(1, number(5)), s(2, number(6))))
	same(t, "Count", c.Count(), 2)
	told(t, "on In", c.Clone().Step(0), meet(1, 0, 0, 0, 1))
	told(t, "on Out", c.Clone().Step(1), meet(1, 1, 0, 1, 2))
	told(t, "In", c.Clone().In(0, 7), in(0, 0, 7))
	told(t, "Out", c.Clone().Out(0), out(1, 1, 6))
}

// P16.3: with nobody that waits for the world, In and Out skip, also where nothing can happen at all.
func TestNoWorld(t *testing.T) {
	c := crewOf(t, newPuppet(t, "a", exits(0)).holds(1, 2), hundred())
	told(t, "In ahead of it all", c.In(0, 1), skip())
	told(t, "Out ahead of it all", c.Out(0), skip())
	told(t, "its end", c.Step(0), exit(0))
	told(t, "In behind it all", c.In(0, 1), skip())
	told(t, "Out behind it all", c.Out(0), skip())
	told(t, "Step behind it all", c.Step(0), idle())
	told(t, "Probe behind it all", c.Probe(true), probe())
	same(t, "Count", c.Count(), 0)
	testRows(t, c, ended(0))
}

// P16.5, P16.6: the dead are those that detect tells; they are reaped, if they are to be, by rising numbers; the reaped have no part in anything.
func TestProbe(t *testing.T) {
	// 1 and 3 wait for each other; 2 and 5 may meet; 4 waits on what 6, which is ready, holds; 7 waits with nobody.
	c, x := gathered(t, []api.Pause{wait(0, r(1))}, []bool{true, true, true, true, true, false, true},
		idler(t, "1", r(11)).holds(11, 12), idler(t, "2", r(13)).holds(13), idler(t, "3", r(12), s(11+3, number(1))).holds(11, 12, 14), idler(t, "4", s(15, number(1))).holds(15),
		idler(t, "5", s(13, number(1))).holds(13), newPuppet(t, "6").holds(15), idler(t, "7").holds(1, 2, 15))
	rows := []api.Row{waits(0, hands(receives(1)), 1, 2, 3, 4, 5), waits(1, hands(receives(11)), 11, 12), waits(2, hands(receives(13)), 13), waits(3, hands(receives(12), sends(14)), 11, 12, 14),
		waits(4, hands(sends(15)), 15), waits(5, hands(sends(13)), 13), ready(6, 15), waits(7, nil, 1, 2, 15)}
	testRows(t, c, rows...)
	for range 2 {
		told(t, "Probe", c.Probe(false), probe(1, 3, 7))
		testRows(t, c, rows...)
		same(t, "Counts", c.Counts(), api.Counts{Procs: 8, Live: 8})
	}
	told(t, "Probe, with reaping", c.Probe(true), probe(1, 3, 7), reap(1), reap(3), reap(7))
	rows[1], rows[3], rows[7] = reaped(1), reaped(3), reaped(7)
	testRows(t, c, rows...)
	same(t, "Counts", c.Counts(), api.Counts{Procs: 8, Live: 5})
	told(t, "Probe again, with reaping", c.Probe(true), probe())
	told(t, "Probe again", c.Probe(false), probe())
	testRows(t, c, rows...)
	same(t, "what was done", x.did(), []string{})
	told(t, "6 ends", c.Step(0), exit(6))
	told(t, "Probe", c.Probe(true), probe(4), reap(4))
	rows[4], rows[6] = reaped(4), ended(6)
	testRows(t, c, rows...)
	told(t, "2 and 5 meet", c.Step(0), meet(5, 0, 2, 0, 13))
	told(t, "Probe", c.Probe(false), probe())
}

// P16.5, P16.9: a dead one that is not reaped is told each time.
func TestProbeAgain(t *testing.T) {
	c, _ := gathered(t, []api.Pause{wait(0, r(1)), tick(0), tick(0)}, []bool{true}, idler(t, "1", r(11)).holds(11))
	told(t, "Probe", c.Probe(false), probe(1))
	told(t, "In", c.In(0, 3), in(0, 0, 3))
	told(t, "Probe", c.Probe(false), probe(1))
	told(t, "Step", c.Step(0))
	told(t, "Probe", c.Probe(true), probe(1), reap(1))
	told(t, "Step", c.Step(0))
	told(t, "Probe", c.Probe(true), probe())
}

// P16.2: a process that does otherwise than the chapters say: each call ends.
func TestOtherwise(t *testing.T) {
	for _, p := range []api.Pause{{}, {Kind: -1}, {Kind: 8, Cells: -5}, {Kind: greatest, Cells: greatest}, {Kind: api.PMake, Cells: least}, {Kind: api.PBorn, Cells: greatest}, {Kind: api.PTick, Cells: least},
		{Kind: api.PWait, Arms: []api.Arm{r(-1), s(-1, number(1)), r(1), s(2, number(1)), r(77)}}, {Kind: api.PSpent, Code: -3}, {Kind: api.PTrap, Code: least}} {
		c := crewOf(t, &stubborn{p}, api.Limits{Procs: 1 << 20, Live: 4096, Chans: 1 << 20, Ticks: 5, Cells: 7, Depth: 1, Nest: 1})
		for range 8 {
			c.Count()
			c.Step(0)
			c.In(0, 1)
			c.Out(0)
			c.Probe(true)
			c.Rows()
			c = c.Clone()
		}
	}
}

// stubborn is a process that always tells the same, and so do its children, whatever is done to it; what it holds is in no order.
type stubborn struct{ api.Pause }

func (x *stubborn) Run(cells, depth int) api.Pause                 { return x.Pause }
func (x *stubborn) Give(v api.Value)                               {}
func (x *stubborn) Fire(arm int, v api.Value)                      {}
func (x *stubborn) Held() []int                                    { return []int{5, -1, 5} }
func (x *stubborn) Child(fn api.Value, args []api.Value) *stubborn { return x }
func (x *stubborn) Clone() *stubborn                               { return x }
