package crew_test

import (
	"testing"
	"unsafe"

	"squint/api"
	"squint/crew"
)

// fill writes one thing all over a list and the room behind it.
func fill[T any](list []T, one T) {
	for k := range list[:cap(list)] {
		list[:cap(list)][k] = one
	}
}

// spoilEvents, spoilRows and spoilAgents write over all that an answer has, and over the room behind it.
func spoilEvents(l []api.Event) {
	for _, e := range l {
		fill(e.List, 4711)
	}
	fill(l, api.Event{Kind: 4711, P: 4711})
}

func spoilRows(l []api.Row) {
	for _, one := range l {
		fill(one.Arms, sends(4711))
		fill(one.Held, 4711)
	}
	fill(l, api.Row{Id: 4711})
}

func spoilAgents(l []api.Agent) {
	for _, one := range l {
		fill(one.Arms, sends(4711))
		fill(one.Held, 4711)
	}
	fill(l, api.Agent{Id: 4711})
}

// span is where a list stands, with the room behind it.
type span struct{ from, to uintptr }

func spanOf[T any](l []T) span {
	from := uintptr(unsafe.Pointer(unsafe.SliceData(l)))
	return span{from, from + uintptr(cap(l))*unsafe.Sizeof(*new(T))}
}

// apart tells whether no two lists share memory.
func apart(spans []span) bool {
	for k, a := range spans {
		for _, b := range spans[:k] {
			if a.from < b.to && b.from < a.to {
				return false
			}
		}
	}
	return true
}

// spans are all lists of what a crew tells of itself, and of its processes.
func spans(c standing) []span {
	out := []span{spanOf(c.Rows), spanOf(c.Agents)}
	for _, one := range c.Rows {
		out = append(out, spanOf(one.Arms), spanOf(one.Held))
	}
	for _, one := range c.Agents {
		out = append(out, spanOf(one.Arms), spanOf(one.Held))
	}
	return out
}

// R4, P16.6: what is answered shares no memory with another answer, nor with what processes have told.
func TestAnswersApart(t *testing.T) {
	held, arms := []int{1, 2, 3, 9}[:3], []api.Arm{r(3), s(2, number(1)), r(7)}[:2]
	kid := newPuppet(t, "b", wait(0, arms...)).holds(held...)
	c := crewOf(t, newPuppet(t, "a", begins(0, number(1)), begins(0, number(2)), tick(0)).holds(held...).with(kid, newPuppet(t, "c", wait(0, r(8))).holds(8)), hundred())
	c.Step(0)
	c.Step(1)
	c.Step(1)
	d := c.Clone()
	all := append(append(spans(stands(c)), spans(stands(c))...), spans(stands(d))...)
	all = append(all, spanOf(held), spanOf(arms))
	first, second, third := c.Probe(false), c.Probe(false), d.Probe(true)
	for _, l := range [][]api.Event{first, second, third} {
		all = append(all, spanOf(l), spanOf(l[0].List))
	}
	same(t, "the dead", first[0].List, []int{2})
	if !apart(all) {
		t.Error("answers share memory")
	}
	for _, l := range [][]api.Event{first, second, third} {
		spoilEvents(l)
	}
	for _, one := range []*crew.Crew[*puppet]{c, d} {
		spoilRows(one.Rows())
		spoilAgents(one.Agents())
		one.In(0, 1)
		one.Out(0)
	}
	same(t, "what a process told that it holds", held[:4], []int{1, 2, 3, 9})
	same(t, "what a process told that it waits with", arms[:3], []api.Arm{r(3), s(2, number(1)), r(7)})
}

// R4, P16.3, P16.4, P16.5: what was answered is the caller's own: no other answer, earlier or later, shows what is written there.
func TestAnswersOwn(t *testing.T) {
	src := "{ val z = make chan of int; begin prog() { <-z; }(); } val c = make chan of int; begin prog() { c <-= 7; }(); <-c; <-input; output <-= 5; val t = [1][1];"
	calls := []func(c face) []api.Event{
		func(c face) []api.Event { return c.Step(0) }, func(c face) []api.Event { return c.Step(0) }, func(c face) []api.Event { return c.Step(0) },
		func(c face) []api.Event { return c.Probe(false) }, func(c face) []api.Event { return c.Step(0) }, func(c face) []api.Event { return c.Step(0) },
		func(c face) []api.Event { return c.In(0, 4) }, func(c face) []api.Event { return c.Probe(true) }, func(c face) []api.Event { return c.Out(0) },
		func(c face) []api.Event { return c.Step(0) }, func(c face) []api.Event { return c.Out(0) }, func(c face) []api.Event { return c.Step(0) },
		func(c face) []api.Event { return c.Step(0) }, func(c face) []api.Event { return c.Step(0) }, func(c face) []api.Event { return c.Probe(true) },
	}
	want := [][]api.Event{
		{born(0, 1), born(0, 2)}, {}, {},
		{probe(1)}, {meet(2, 0, 0, 0, 4)}, {},
		{in(0, 0, 4)}, {probe(1), reap(1)}, {skip()},
		{}, {out(0, 0, 5)}, {trap(0, api.TrapIndex)},
		{exit(2)}, {idle()}, {probe()},
	}
	c := machines(t, src, hundred())
	var early [][]api.Event
	for k, call := range calls {
		d := c.Clone()
		spoilRows(c.Rows())
		spoilAgents(c.Agents())
		spoilEvents(call(d))
		got := call(c)
		told(t, "a call", got, want[k]...)
		early = append(early, got)
	}
	for k, l := range early {
		told(t, "a call's answer, later", l, want[k]...)
		spoilEvents(l)
		for after := k + 1; after < len(early); after++ {
			told(t, "another answer", early[after], want[after]...)
		}
	}
}

// R3: none is none, whether a process tells it as an empty list or as nil.
func TestNothing(t *testing.T) {
	for _, none := range [][]api.Arm{nil, {}, {r(3)}} {
		c := crewOf(t, newPuppet(t, "a", wait(0, none[:0]...)).holds(), hundred())
		told(t, "Step", c.Step(0))
		testRows(t, c, waits(0, nil))
		told(t, "Probe", c.Probe(true), probe(0), reap(0))
	}
}
