package crew_test

import (
	"testing"

	"squint/api"
	"squint/crew"
)

// P16.1: each limit at its least and its greatest, one below and one above, and far off.
func TestCheck(t *testing.T) {
	field := func(l *api.Limits, k int) *int {
		return []*int{&l.Procs, &l.Live, &l.Chans, &l.Ticks, &l.Cells, &l.Depth, &l.Nest}[k]
	}
	lows := []int{1, 1, 0, 1, 1, 1, 1}
	highs := []int{1048576, 4096, 1048576, 1048576, 1048576, 1048576, 65536}
	var low, high api.Limits
	for k := range lows {
		*field(&low, k), *field(&high, k) = lows[k], highs[k]
	}
	for _, l := range []api.Limits{low, high, hundred(), vast()} {
		for k := range lows {
			for _, n := range []int{lows[k], lows[k] + 1, highs[k] - 1, highs[k]} {
				x := l
				*field(&x, k) = n
				same(t, "Check of right limits", crew.Check(x), api.OK)
				c, e := crew.New(newPuppet(t, "a"), x)
				if c == nil || e != api.OK {
					t.Errorf("New with %v: %d", x, e)
				}
			}
			for _, n := range []int{lows[k] - 1, highs[k] + 1, -1, least, greatest, -highs[k]} {
				x := l
				*field(&x, k) = n
				same(t, "Check of wrong limits", crew.Check(x), api.ErrCrewLimits)
				c, e := crew.New(newPuppet(t, "a"), x)
				if c != nil || e != api.ErrCrewLimits {
					t.Errorf("New with %v: %v, %d", x, c, e)
				}
			}
		}
	}
	same(t, "Check of none", crew.Check(api.Limits{}), api.ErrCrewLimits)
}

// P16.2, P16.6: a crew of one, which is ready, and was not run yet.
func TestNew(t *testing.T) {
	x := newPuppet(t, "a").holds(1, 2)
	c := crewOf(t, x, api.Limits{Procs: 1, Live: 1, Ticks: 1, Cells: 1, Depth: 1, Nest: 1})
	same(t, "Count", c.Count(), 1)
	same(t, "Counts", c.Counts(), api.Counts{Procs: 1, Live: 1})
	same(t, "Spent", c.Spent(), false)
	testRows(t, c, ready(0, 1, 2))
	same(t, "what was done", x.did(), []string{})
	told(t, "Step", c.Step(0), exit(0))
	same(t, "what was done", x.did(), []string{"a run 1 1"})
	testRows(t, c, ended(0))
	same(t, "Counts", c.Counts(), api.Counts{Procs: 1})
}

// What is counted; P16.3: each kind of pause; that a process is run on where one is born and where a channel is made; what Run is told.
func TestPauses(t *testing.T) {
	fn, arg := api.Value{Kind: api.VProg, Num: 7, List: []api.Value{number(1)}}, channel(3)
	kid := newPuppet(t, "b", traps(2, api.TrapIndex)).holds(3)
	x := newPuppet(t, "a", makes(3), begins(4, fn, arg, number(8)), makes(0), tick(5), wait(6, r(3), s(0, arg)), exits(7)).holds(1, 2, 3).with(kid)
	c := crewOf(t, x, hundred())
	told(t, "Step to a tick", c.Step(0), born(0, 1))
	same(t, "what was done", x.did(), []string{
		"a run 100 10", "a give {5 3 []}", "a run 97 10", "a child {6 7 [{1 1 []}]} [{5 3 []} {1 8 []}]", "a run 93 10", "a give {5 4 []}", "a run 93 10"})
	same(t, "Counts", c.Counts(), api.Counts{Procs: 2, Live: 2, Chans: 2, Ticks: 1, Cells: 12})
	testRows(t, c, ready(0, 1, 2, 3), ready(1, 3))
	told(t, "Step to a wait", c.Step(0))
	same(t, "what was done", x.did(), []string{"a run 88 10"})
	same(t, "Counts", c.Counts(), api.Counts{Procs: 2, Live: 2, Chans: 2, Ticks: 1, Cells: 18})
	testRows(t, c, waits(0, hands(receives(3), sends(0)), 1, 2, 3), ready(1, 3))
	told(t, "Step to a trap", c.Step(0), trap(1, api.TrapIndex))
	same(t, "what was done", x.did(), []string{"b run 82 10"})
	same(t, "Counts", c.Counts(), api.Counts{Procs: 2, Live: 1, Chans: 2, Ticks: 1, Cells: 20})
	testRows(t, c, waits(0, hands(receives(3), sends(0)), 1, 2, 3), ended(1))
	told(t, "Step of none", c.Step(0), idle())
	same(t, "what was done", x.did(), []string{})
}

// P16.3, P16.6: one that waits with no arms waits; it is told with none.
func TestNoArms(t *testing.T) {
	c := crewOf(t, newPuppet(t, "a", wait(1)).holds(5), hundred())
	told(t, "Step", c.Step(0))
	testRows(t, c, waits(0, nil, 5))
	told(t, "Step", c.Step(0), idle())
	told(t, "Probe", c.Probe(false), probe(0))
}

// testSpent holds a crew that has just passed a limit against what it is to be: it tells of nothing more, and stands as it stood.
func testSpent[P crew.Proc[P]](t *testing.T, c *crew.Crew[P], counts api.Counts, rows ...api.Row) {
	t.Helper()
	for range 2 {
		same(t, "Spent", c.Spent(), true)
		same(t, "Count", c.Count(), 0)
		same(t, "Counts", c.Counts(), counts)
		testRows(t, c, rows...)
		for _, n := range []int{0, 1, -1, least, greatest} {
			told(t, "Step of a spent crew", c.Step(n))
			told(t, "In of a spent crew", c.In(n, 5))
			told(t, "Out of a spent crew", c.Out(n))
		}
		told(t, "Probe of a spent crew", c.Probe(false))
		told(t, "Probe of a spent crew", c.Probe(true))
		c = c.Clone()
	}
}

// spending is a crew of which 1 waits with the world, 2 is dead, and 0, with what it is to do, passes a limit at the next Step.
func spending(t *testing.T, l api.Limits, plan ...api.Pause) (*crew.Crew[*puppet], *puppet) {
	t.Helper()
	first := append([]api.Pause{begins(0, number(1)), begins(0, number(2)), tick(0)}, plan...)
	kids := []*puppet{
		newPuppet(t, "b", wait(0, r(api.In), s(api.Out, number(4)))).holds(1, 2),
		newPuppet(t, "c", wait(0, r(9))).holds(9),
		newPuppet(t, "d").holds(8),
	}
	x := newPuppet(t, "a", first...).holds(1, 2).with(kids...)
	c := crewOf(t, x, l)
	told(t, "births", c.Step(0), born(0, 1), born(0, 2))
	told(t, "1 waits", c.Step(1))
	told(t, "2 waits", c.Step(1))
	x.did()
	return c, x
}

// What is counted, P16.6, P16.11: each limit that is passed: just there, with what was told and counted ahead of it.
func TestSpent(t *testing.T) {
	one, two := waits(1, hands(receives(1), sends(2)), 1, 2), waits(2, hands(receives(9)), 9)
	fn := number(3)
	for _, x := range []struct {
		name  string
		turn  func(l *api.Limits)
		plan  []api.Pause
		told  []api.Event
		count api.Counts
		more  []api.Row
	}{
		{"procs", func(l *api.Limits) { l.Procs = 3 }, []api.Pause{makes(2), begins(3, fn), tick(1)}, []api.Event{spent(0, api.SpentProcs)}, api.Counts{Procs: 3, Live: 3, Chans: 1, Ticks: 1, Cells: 5}, nil},
		{"procs, behind a birth", func(l *api.Limits) { l.Procs = 4 }, []api.Pause{begins(3, fn), begins(4, fn)}, []api.Event{born(0, 3), spent(0, api.SpentProcs)}, api.Counts{Procs: 4, Live: 4, Ticks: 1, Cells: 7}, []api.Row{ready(3, 8)}},
		{"live", func(l *api.Limits) { l.Live = 3 }, []api.Pause{makes(2), begins(3, fn), tick(1)}, []api.Event{spent(0, api.SpentLive)}, api.Counts{Procs: 3, Live: 3, Chans: 1, Ticks: 1, Cells: 5}, nil},
		{"live, behind a birth", func(l *api.Limits) { l.Live = 4 }, []api.Pause{begins(3, fn), begins(4, fn)}, []api.Event{born(0, 3), spent(0, api.SpentLive)}, api.Counts{Procs: 4, Live: 4, Ticks: 1, Cells: 7}, []api.Row{ready(3, 8)}},
		{"procs and live", func(l *api.Limits) { l.Procs, l.Live = 3, 3 }, []api.Pause{begins(3, fn)}, []api.Event{spent(0, api.SpentProcs)}, api.Counts{Procs: 3, Live: 3, Ticks: 1, Cells: 3}, nil},
		{"chans", func(l *api.Limits) { l.Chans = 0 }, []api.Pause{makes(2), tick(1)}, []api.Event{spent(0, api.SpentChans)}, api.Counts{Procs: 3, Live: 3, Ticks: 1, Cells: 2}, nil},
		{"chans, behind a birth", func(l *api.Limits) { l.Chans = 2 }, []api.Pause{makes(1), begins(1, fn), makes(1), makes(2)}, []api.Event{born(0, 3), spent(0, api.SpentChans)}, api.Counts{Procs: 4, Live: 4, Chans: 2, Ticks: 1, Cells: 5}, []api.Row{ready(3, 8)}},
		{"ticks", func(l *api.Limits) { l.Ticks = 1 }, []api.Pause{tick(4)}, []api.Event{spent(0, api.SpentTicks)}, api.Counts{Procs: 3, Live: 3, Ticks: 1, Cells: 4}, nil},
		{"ticks, behind a birth", func(l *api.Limits) { l.Ticks = 1 }, []api.Pause{begins(1, fn), tick(4)}, []api.Event{born(0, 3), spent(0, api.SpentTicks)}, api.Counts{Procs: 4, Live: 4, Ticks: 1, Cells: 5}, []api.Row{ready(3, 8)}},
		{"cells", func(l *api.Limits) { l.Cells = 9 }, []api.Pause{makes(5), overruns(4, api.SpentCells)}, []api.Event{spent(0, api.SpentCells)}, api.Counts{Procs: 3, Live: 3, Chans: 1, Ticks: 1, Cells: 9}, nil},
		{"cells, behind a birth", func(l *api.Limits) { l.Cells = 9 }, []api.Pause{begins(2, fn), overruns(0, api.SpentCells)}, []api.Event{born(0, 3), spent(0, api.SpentCells)}, api.Counts{Procs: 4, Live: 4, Ticks: 1, Cells: 2}, []api.Row{ready(3, 8)}},
		{"depth", func(l *api.Limits) {}, []api.Pause{overruns(3, api.SpentDepth)}, []api.Event{spent(0, api.SpentDepth)}, api.Counts{Procs: 3, Live: 3, Ticks: 1, Cells: 3}, nil},
	} {
		t.Run(x.name, func(t *testing.T) {
			l := hundred()
			x.turn(&l)
			c, first := spending(t, l, x.plan...)
			testRows(t, c, ready(0, 1, 2), one, two)
			same(t, "Count ahead of it", c.Count(), 1)
			told(t, "Step", c.Step(0), x.told...)
			first.did()
			testSpent(t, c, x.count, append([]api.Row{ready(0), one, two}, x.more...)...)
			same(t, "what was done with a spent crew", first.did(), []string{})
		})
	}
}

// P16.6: whoever of a crew ran when it was spent is ready and holds nothing; the others hold what they held; those that have ended have.
func TestSpentByAnother(t *testing.T) {
	l := hundred()
	l.Ticks = 1
	kids := []*puppet{newPuppet(t, "b", exits(0)), newPuppet(t, "c", tick(0), tick(0)).holds(4, 5), newPuppet(t, "d").holds(6)}
	c := crewOf(t, newPuppet(t, "a", begins(0, number(1)), begins(0, number(2)), begins(0, number(3)), wait(0, r(3))).holds(1, 3).with(kids...), l)
	told(t, "births", c.Step(0), born(0, 1), born(0, 2), born(0, 3))
	told(t, "1 ends", c.Step(0), exit(1))
	told(t, "2 ticks", c.Step(0))
	testRows(t, c, waits(0, hands(receives(3)), 1, 3), ended(1), ready(2, 4, 5), ready(3, 6))
	told(t, "2 ticks again", c.Step(0), spent(2, api.SpentTicks))
	testSpent(t, c, api.Counts{Procs: 4, Live: 3, Ticks: 1}, waits(0, hands(receives(3)), 1, 3), ended(1), ready(2), ready(3, 6))
}

// What is counted: Live counts neither those that have ended nor the reaped, so others may be born; Procs counts them.
func TestLiveAgain(t *testing.T) {
	l := hundred()
	l.Live = 2
	mute := func(name string, plan ...api.Pause) *puppet { return newPuppet(t, name, plan...).holds(9) }
	x := newPuppet(t, "a", begins(0, number(1)), tick(0), begins(0, number(2)), tick(0), begins(0, number(3)), tick(0), begins(0, number(4)), tick(0)).
		with(mute("b", exits(0)), mute("c", traps(0, 1)), mute("d", wait(0, r(9))), mute("e"))
	c := crewOf(t, x, l)
	told(t, "a birth", c.Step(0), born(0, 1))
	told(t, "its end", c.Step(1), exit(1))
	told(t, "a birth", c.Step(0), born(0, 2))
	told(t, "its end", c.Step(1), trap(2, 1))
	told(t, "a birth", c.Step(0), born(0, 3))
	told(t, "it waits", c.Step(1))
	unreaped := c.Clone()
	told(t, "it is reaped", c.Probe(true), probe(3), reap(3))
	same(t, "Counts", c.Counts(), api.Counts{Procs: 4, Live: 1, Ticks: 3})
	told(t, "a birth", c.Step(0), born(0, 4))
	same(t, "Counts", c.Counts(), api.Counts{Procs: 5, Live: 2, Ticks: 4})
	told(t, "a probe", unreaped.Probe(false), probe(3))
	told(t, "no birth", unreaped.Step(0), spent(0, api.SpentLive))
	same(t, "Counts", unreaped.Counts(), api.Counts{Procs: 4, Live: 2, Ticks: 3})
}
