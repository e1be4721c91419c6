package crew_test

import (
	"fmt"
	"slices"
	"strings"
	"testing"

	"squint/api"
	"squint/crew"
)

// reading is a second crew: the chapter's words one by one, with loops over all processes and all arms.
type reading[P crew.Proc[P]] struct {
	l      api.Limits
	procs  []*reader[P]
	counts api.Counts
	spent  bool
	events []api.Event // of the call that is going on
}

type reader[P crew.Proc[P]] struct {
	proc  P
	state int
	arms  []api.Arm
	empty bool // it ran when the crew was spent
}

func newReading[P crew.Proc[P]](first P, l api.Limits) *reading[P] {
	return &reading[P]{l: l, procs: []*reader[P]{{proc: first, state: api.StReady}}, counts: api.Counts{Procs: 1, Live: 1}}
}

func (c *reading[P]) tell(e api.Event) { c.events = append(c.events, e) }

// done is what a call has told; nothing, if the crew was spent ahead of it.
func (c *reading[P]) done(what func()) []api.Event {
	c.events = nil
	if !c.spent {
		what()
	}
	return c.events
}

func (c *reading[P]) pass(id, limit int) {
	c.tell(api.Event{Kind: api.EvSpent, P: id, Num: limit})
	c.spent, c.procs[id].empty = true, true
}

// run is the chapter's 'To run'.
func (c *reading[P]) run(id int) {
	x := c.procs[id]
	for {
		p := x.proc.Run(c.l.Cells-c.counts.Cells, c.l.Depth)
		c.counts.Cells += p.Cells
		switch {
		case p.Kind == api.PTick && c.counts.Ticks == c.l.Ticks:
			c.pass(id, api.SpentTicks)
			return
		case p.Kind == api.PTick:
			c.counts.Ticks++
			return
		case p.Kind == api.PWait:
			x.state, x.arms = api.StWaits, p.Arms
			return
		case p.Kind == api.PExit:
			x.state = api.StEnded
			c.counts.Live--
			c.tell(api.Event{Kind: api.EvExit, P: id})
			return
		case p.Kind == api.PTrap:
			x.state = api.StEnded
			c.counts.Live--
			c.tell(api.Event{Kind: api.EvTrap, P: id, Num: p.Code})
			return
		case p.Kind == api.PBorn && c.counts.Procs == c.l.Procs:
			c.pass(id, api.SpentProcs)
			return
		case p.Kind == api.PBorn && c.counts.Live == c.l.Live:
			c.pass(id, api.SpentLive)
			return
		case p.Kind == api.PBorn:
			c.procs = append(c.procs, &reader[P]{proc: x.proc.Child(p.Fn, p.Args), state: api.StReady})
			c.tell(api.Event{Kind: api.EvBorn, P: id, Q: c.counts.Procs})
			c.counts.Procs++
			c.counts.Live++
		case p.Kind == api.PMake && c.counts.Chans == c.l.Chans:
			c.pass(id, api.SpentChans)
			return
		case p.Kind == api.PMake:
			c.counts.Chans++
			x.proc.Give(channel(2 + c.counts.Chans))
		case p.Kind == api.PSpent:
			c.pass(id, p.Code)
			return
		default:
			panic(fmt.Sprint("a pause of no kind: ", p))
		}
	}
}

func (c *reading[P]) fire(id, arm int, v api.Value) {
	x := c.procs[id]
	x.state = api.StReady
	x.proc.Fire(arm, v)
}

// arm is an arm of a process that waits.
type arm struct {
	id, at int
	api.Arm
}

// arms are all arms of those that wait, by rising numbers of the process, then of the arm.
func (c *reading[P]) arms(which func(a api.Arm) bool) (out []arm) {
	for id, x := range c.procs {
		for at, a := range x.arms {
			if x.state == api.StWaits && which(a) {
				out = append(out, arm{id, at, a})
			}
		}
	}
	return out
}

// transitions are what can happen next, in the order of the chapter.
func (c *reading[P]) transitions() (out []func()) {
	if c.spent {
		return nil
	}
	for id, x := range c.procs {
		if x.state == api.StReady {
			out = append(out, func() { c.run(id) })
		}
	}
	for _, from := range c.arms(func(a api.Arm) bool { return a.Send }) {
		for _, to := range c.arms(func(a api.Arm) bool { return !a.Send }) {
			if from.id == to.id || from.Chan != to.Chan || from.Chan == 0 {
				continue
			}
			out = append(out, func() {
				c.tell(api.Event{Kind: api.EvMeet, P: from.id, I: from.at, Q: to.id, J: to.at, Chan: from.Chan})
				c.fire(from.id, from.at, api.Value{})
				c.fire(to.id, to.at, from.Value)
			})
		}
	}
	return out
}

func (c *reading[P]) Count() int { return len(c.transitions()) }

func (c *reading[P]) Step(n int) []api.Event {
	return c.done(func() {
		all := c.transitions()
		switch {
		case len(all) == 0:
			c.tell(api.Event{Kind: api.EvIdle})
		case n < 0 || n > len(all)-1:
			c.tell(api.Event{Kind: api.EvSkip})
		default:
			all[n]()
		}
	})
}

func (c *reading[P]) In(n, v int) []api.Event {
	return c.done(func() {
		for k, one := range c.arms(func(a api.Arm) bool { return !a.Send && a.Chan == 1 }) {
			if k == n {
				c.tell(api.Event{Kind: api.EvIn, Q: one.id, J: one.at, Num: v})
				c.fire(one.id, one.at, number(v))
				return
			}
		}
		c.tell(api.Event{Kind: api.EvSkip})
	})
}

func (c *reading[P]) Out(n int) []api.Event {
	return c.done(func() {
		for k, one := range c.arms(func(a api.Arm) bool { return a.Send && a.Chan == 2 }) {
			if k == n {
				num := one.Value.Num
				if one.Value.Kind != api.VInt {
					num = 0
				}
				c.tell(api.Event{Kind: api.EvOut, P: one.id, I: one.at, Num: num})
				c.fire(one.id, one.at, api.Value{})
				return
			}
		}
		c.tell(api.Event{Kind: api.EvSkip})
	})
}

// Probe: whoever may be woken holds what it holds: so more and more are woken, till nobody more is. The others are dead.
func (c *reading[P]) Probe(reap bool) []api.Event {
	return c.done(func() {
		agents := c.Agents()
		for again := true; again; {
			again = false
			for k, a := range agents {
				if !a.Awake && c.wakes(agents, k) {
					agents[k].Awake, again = true, true
				}
			}
		}
		probe := api.Event{Kind: api.EvProbe}
		for _, a := range agents {
			if !a.Awake {
				probe.List = append(probe.List, a.Id)
			}
		}
		c.tell(probe)
		for _, id := range probe.List {
			if reap {
				c.procs[id].state = api.StReaped
				c.counts.Live--
				c.tell(api.Event{Kind: api.EvReap, P: id})
			}
		}
	})
}

// wakes tells whether an agent that waits may be woken by the world, by one that is awake, or by an arm that fits.
func (c *reading[P]) wakes(agents []api.Agent, k int) bool {
	for _, mine := range agents[k].Arms {
		if mine == receives(1) || mine == sends(2) {
			return true
		}
		for other, a := range agents {
			if other == k || mine.Chan == 0 {
				continue
			}
			if a.Awake && slices.Contains(a.Held, mine.Chan) || slices.Contains(a.Arms, api.Hand{Chan: mine.Chan, Send: !mine.Send}) {
				return true
			}
		}
	}
	return false
}

func (c *reading[P]) Rows() (out []api.Row) {
	for id, x := range c.procs {
		row := api.Row{Id: id, State: x.state}
		if x.state == api.StWaits {
			for _, a := range x.arms {
				row.Arms = append(row.Arms, api.Hand{Chan: a.Chan, Send: a.Send})
			}
		}
		if (x.state == api.StWaits || x.state == api.StReady) && !x.empty {
			row.Held = x.proc.Held()
		}
		out = append(out, row)
	}
	return out
}

func (c *reading[P]) Agents() (out []api.Agent) {
	for _, row := range c.Rows() {
		if row.State == api.StWaits || row.State == api.StReady {
			out = append(out, api.Agent{Id: row.Id, Awake: row.State == api.StReady, Arms: row.Arms, Held: row.Held})
		}
	}
	return out
}

func (c *reading[P]) Counts() api.Counts { return c.counts }

func (c *reading[P]) Spent() bool { return c.spent }

func (c *reading[P]) Clone() *reading[P] {
	out := *c
	out.procs = nil
	for _, x := range c.procs {
		y := *x
		y.proc = x.proc.Clone()
		out.procs = append(out.procs, &y)
	}
	return &out
}

// twin is a crew, and the second reading, with which the same is done: whatever they tell is held against each other, and written over then.
type twin[P crew.Proc[P]] struct {
	t    *testing.T
	real *crew.Crew[P]
	read *reading[P]
	said []string
	seen map[int]int // events by their kinds
}

func newTwin[P crew.Proc[P]](t *testing.T, name string, first P, l api.Limits) *twin[P] {
	t.Helper()
	read := newReading(first.Clone(), l)
	x := &twin[P]{t: t, real: crewOf(t, first, l), read: read, said: []string{name, fmt.Sprint(l)}, seen: map[int]int{}}
	x.stands()
	return x
}

func (x *twin[P]) fail(what string, got, want any) {
	x.t.Helper()
	x.t.Fatalf("%s\n%s: %v, not %v", strings.Join(x.said, "\n"), what, got, want)
}

// hold holds two answers against each other.
func (x *twin[P]) hold(what string, got, want any) {
	x.t.Helper()
	if fmt.Sprint(got) != fmt.Sprint(want) {
		x.fail(what, got, want)
	}
}

// stands holds all that is told of how the crews stand.
func (x *twin[P]) stands() {
	x.t.Helper()
	x.hold("Count", x.real.Count(), x.read.Count())
	x.hold("Counts", x.real.Counts(), x.read.Counts())
	x.hold("Spent", x.real.Spent(), x.read.Spent())
	rows, agents := x.real.Rows(), x.real.Agents()
	x.hold("Rows", rows, x.read.Rows())
	x.hold("Agents", agents, x.read.Agents())
	spoilRows(rows)
	spoilAgents(agents)
}

// call holds what a call tells, and how the crews stand behind it; the answer is a copy.
func (x *twin[P]) call(what string, got, want []api.Event) []api.Event {
	x.t.Helper()
	x.said = append(x.said, fmt.Sprint(what, ": ", got))
	x.hold(what, got, want)
	spoilEvents(got)
	for _, e := range want {
		x.seen[e.Kind]++
	}
	x.stands()
	return want
}

func (x *twin[P]) Step(n int) []api.Event {
	x.t.Helper()
	return x.call(fmt.Sprint("step ", n), x.real.Step(n), x.read.Step(n))
}

func (x *twin[P]) In(n, v int) []api.Event {
	x.t.Helper()
	return x.call(fmt.Sprint("in ", n, " ", v), x.real.In(n, v), x.read.In(n, v))
}

func (x *twin[P]) Out(n int) []api.Event {
	x.t.Helper()
	return x.call(fmt.Sprint("out ", n), x.real.Out(n), x.read.Out(n))
}

func (x *twin[P]) Probe(reap bool) []api.Event {
	x.t.Helper()
	return x.call(fmt.Sprint("probe ", reap), x.real.Probe(reap), x.read.Probe(reap))
}

func (x *twin[P]) Count() int          { return x.read.Count() }
func (x *twin[P]) Rows() []api.Row     { return x.read.Rows() }
func (x *twin[P]) Agents() []api.Agent { return x.read.Agents() }
func (x *twin[P]) Counts() api.Counts  { return x.read.Counts() }
func (x *twin[P]) Spent() bool         { return x.read.Spent() }

func (x *twin[P]) Clone() *twin[P] {
	y := *x
	y.real, y.read, y.said = x.real.Clone(), x.read.Clone(), append(slices.Clone(x.said), "clone")
	y.stands()
	return &y
}
