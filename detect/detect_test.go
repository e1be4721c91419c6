package detect_test

import (
	"math"
	"slices"
	"testing"

	"squint/api"
	"squint/detect"
)

const (
	least    = math.MinInt
	greatest = math.MaxInt
	world    = -1
)

func s(channel int) api.Hand { return api.Hand{Chan: channel, Send: true} }

func r(channel int) api.Hand { return api.Hand{Chan: channel} }

func hands(l ...api.Hand) []api.Hand { return l }

func ids(l ...int) []int { return l }

func awake(id int, held ...int) api.Agent { return api.Agent{Id: id, Awake: true, Held: held} }

func waits(id int, arms []api.Hand, held ...int) api.Agent {
	return api.Agent{Id: id, Arms: arms, Held: held}
}

func state(l ...api.Agent) []api.Agent { return l }

func link(waker, woken, channel int) api.Link {
	return api.Link{Waker: waker, Woken: woken, Chan: channel}
}

func chain(l ...api.Link) []api.Link { return l }

// testDead holds Dead's answer against the Ids that it must be, and asks for the chain of each of them.
func testDead(t *testing.T, of []api.Agent, want ...int) {
	t.Helper()
	if got, e := detect.Dead(of); e != api.OK || !slices.Equal(got, want) {
		t.Errorf("Dead(%v): %v, %d, not %v", of, got, e, want)
	}
	for _, id := range want {
		testNoChain(t, of, id)
	}
}

// testChain holds Chain's answer against the links that it must be.
func testChain(t *testing.T, of []api.Agent, id int, want ...api.Link) {
	t.Helper()
	if got, ok := detect.Chain(of, id); !ok || !slices.Equal(got, want) {
		t.Errorf("Chain(%v, %d): %v, %v, not %v", of, id, got, ok, want)
	}
}

// testNoChain tests that there is no chain.
func testNoChain(t *testing.T, of []api.Agent, id int) {
	t.Helper()
	if got, ok := detect.Chain(of, id); ok || len(got) > 0 {
		t.Errorf("Chain(%v, %d): %v, %v", of, id, got, ok)
	}
}

// testAll tests that these are the chains of all that wait and are not dead.
func testAll(t *testing.T, of []api.Agent, want ...[]api.Link) {
	t.Helper()
	left := map[int][]api.Link{}
	for _, l := range want {
		left[l[len(l)-1].Woken] = l
	}
	var dead []int
	for _, a := range of {
		switch l := left[a.Id]; {
		case l != nil:
			testChain(t, of, a.Id, l...)
		case a.Awake:
			testNoChain(t, of, a.Id)
		default:
			dead = append(dead, a.Id)
		}
	}
	testDead(t, of, dead...)
}

// P15.1 to P15.3: the chapter's examples.
func TestExamples(t *testing.T) {
	testAll(t, state(waits(0, hands(r(3)), 3)))
	testAll(t, state(waits(0, hands(r(1)), 1), waits(1, hands(s(2)), 2), waits(2, hands(s(1)), 1), waits(3, hands(r(2)), 2)),
		chain(link(world, 0, 1)), chain(link(world, 1, 2)), chain(link(0, 2, 1)), chain(link(1, 3, 2)))
	testAll(t, state(waits(0, hands(s(1)), 1), waits(1, hands(r(2)), 2)))
	ring := state(waits(0, hands(r(3)), 3, 4), waits(1, hands(r(4)), 3, 4))
	testAll(t, ring)
	testAll(t, append(ring, awake(2, 4)), chain(link(2, 1, 4)), chain(link(2, 1, 4), link(1, 0, 3)))
	testAll(t, state(waits(0, hands(r(3), s(3)), 3)))
	testAll(t, state(waits(0, hands(r(0))), awake(1)))
	testAll(t, state(waits(0, hands(r(3)), 3), waits(1, hands(s(3)), 3, 5), waits(2, hands(r(5)), 5), waits(3, hands(r(6)), 6)),
		chain(link(1, 0, 3)), chain(link(0, 1, 3)), chain(link(0, 1, 3), link(1, 2, 5)))
	testAll(t, state(waits(0, hands(r(4), r(3)), 3, 4), awake(1, 3), awake(2, 3, 4)), chain(link(2, 0, 4)))
	testNoStates(t, state(awake(1), awake(0)))
}

// testNoStates tests that lists are refused by both calls, whoever is asked for.
func testNoStates(t *testing.T, lists ...[]api.Agent) {
	t.Helper()
	for _, l := range lists {
		if got, e := detect.Dead(l); e != api.ErrCapsState || len(got) > 0 {
			t.Errorf("Dead(%v): %v, %d", l, got, e)
		}
		for _, id := range ids(0, 1, 2, world, least, greatest) {
			testNoChain(t, l, id)
		}
	}
}

// P15.1, P15.3: what caps.Check refuses is refused by both, also where somebody would be dead, or would have a chain.
func TestNoStates(t *testing.T) {
	dead, waked := waits(0, hands(r(3)), 3), waits(1, hands(r(1), s(2)), 1, 2)
	testNoStates(t,
		state(waked, dead), state(dead, dead), state(waked, waked), state(dead, waked, waked), state(dead, waked, dead), // no rising Ids
		state(waits(-1, hands(r(1)), 1)), state(waits(least, nil), waked), state(awake(world, 1), dead), state(awake(greatest, 1), dead),
		state(api.Agent{Id: 0, Awake: true, Arms: hands(r(1)), Held: ids(1)}, waked), // awake with an arm
		state(dead, api.Agent{Id: 1, Awake: true, Arms: hands(r(0))}), state(dead, api.Agent{Id: 1, Awake: true, Arms: hands(s(0))}, waits(2, hands(r(1)), 1)),
		state(waits(0, hands(r(1)))), state(dead, waits(1, hands(r(1)))), state(waits(0, hands(r(1), s(4)), 1)), state(awake(0, 4), waits(1, hands(r(4)), 3)), // an arm on what it does not hold
		state(waits(0, hands(r(-1)), 1), waked), state(dead, waits(1, hands(r(least)), 1)), state(dead, waits(1, hands(r(greatest)), greatest-1)),
		state(dead, waits(1, hands(r(1)), 0, 1)), state(dead, waits(1, hands(r(1)), -1, 1)), state(dead, waits(1, hands(r(1)), least, 1)), // held are no channels that rise
		state(dead, waits(1, hands(r(1)), 1, 1)), state(dead, waits(1, hands(r(1)), 2, 1)), state(awake(0, 4, 3), waits(1, hands(r(3)), 3)))
}

// crew is so many agents of which the first one is awake, those with odd Ids wait for it, and those with even ones are dead.
func crew(n int) ([]api.Agent, []int) {
	out, dead := state(awake(0, 5)), []int(nil)
	for id := 1; id < n; id++ {
		if id%2 == 0 {
			out, dead = append(out, waits(id, hands(r(6)), 6)), append(dead, id)
		} else {
			out = append(out, waits(id, hands(r(5)), 5))
		}
	}
	return out, dead
}

// P15.1, P15.3: no agents; MaxAgents agents, and no more.
func TestMaxAgents(t *testing.T) {
	testDead(t, nil)
	testDead(t, []api.Agent{})
	for _, id := range ids(0, 1, world, least, greatest) {
		testNoChain(t, nil, id)
		testNoChain(t, []api.Agent{}, id)
	}
	for _, n := range []int{1, 2, api.MaxAgents - 1, api.MaxAgents, api.MaxAgents + 1, 2 * api.MaxAgents, 100000} {
		l, dead := crew(n)
		got, e := detect.Dead(l)
		links, ok := detect.Chain(l, 1)
		last, lastOk := detect.Chain(l, n-1)
		switch {
		case n > api.MaxAgents:
			if len(got) > 0 || e != api.ErrCapsState || len(links) > 0 || ok || len(last) > 0 || lastOk {
				t.Errorf("%d agents: %d are dead, %d; %v, %v; %v, %v", n, len(got), e, links, ok, last, lastOk)
			}
		case e != api.OK || !slices.Equal(got, dead):
			t.Errorf("%d agents: %d are dead, %d", n, len(got), e)
		case ok != (n > 1) || ok && !slices.Equal(links, chain(link(0, 1, 5))):
			t.Errorf("%d agents: %v, %v", n, links, ok)
		case lastOk != (n%2 == 0) || lastOk && !slices.Equal(last, chain(link(0, n-1, 5))):
			t.Errorf("%d agents: %v, %v", n, last, lastOk)
		}
	}
	if got, e := detect.Dead(make([]api.Agent, api.MaxAgents+1)); len(got) > 0 || e != api.ErrCapsState {
		t.Errorf("of many that are alike %d are dead, %d", len(got), e)
	}
}

// P15.1: all awake: nobody is dead; none awake, none of whose arms fit: all are.
func TestAllAwake(t *testing.T) {
	testDead(t, state(awake(0)))
	testAll(t, state(awake(0), awake(1, 1, 2, 3), awake(7, 3), awake(greatest, greatest)))
	testAll(t, state(waits(0, hands(r(3)), 3, 5), waits(2, hands(s(4)), 4, 5), waits(9, hands(s(5), s(1)), 1, 3, 4, 5)))
	testAll(t, state(waits(0, hands(r(3)), 3), waits(1, hands(r(3)), 3), waits(2, hands(r(3)), 3)))
	testAll(t, state(waits(0, hands(s(3)), 3), waits(1, hands(s(3)), 3), waits(2, hands(s(3), r(4)), 3, 4)))
	var all, none []api.Agent
	var dead []int
	for id := range api.MaxAgents {
		all, none, dead = append(all, awake(id, 3)), append(none, waits(id, hands(s(3)), 3)), append(dead, id)
	}
	testDead(t, all)
	if got, e := detect.Dead(none); e != api.OK || !slices.Equal(got, dead) {
		t.Errorf("of many that wait %d are dead, %d", len(got), e)
	}
}

// P15.1, P15.2: who has arms on nil alone, or no arms, is dead, whatever it holds; arms on nil fit none.
func TestNil(t *testing.T) {
	testAll(t, state(waits(0, hands(r(0))), awake(1, 1, 2, 3), waits(2, hands(s(0)), 3), waits(3, hands(s(0), r(0)), 1, 2), waits(4, hands(r(0), s(0), r(0)))))
	testAll(t, state(waits(0, hands(r(0))), waits(1, hands(s(0)))))
	testAll(t, state(waits(0, nil), waits(1, []api.Hand{}, 1, 2, 3), awake(2, 1, 2, 3), waits(3, nil, greatest)))
	// They do not keep it from the other arms, nor do those who are dead by them let others go on.
	testAll(t, state(awake(0, 3), waits(1, hands(r(0), s(0), s(3), r(0)), 3)), chain(link(0, 1, 3)))
	testAll(t, state(waits(0, hands(r(0)), 3), waits(1, nil, 3), waits(2, hands(r(3)), 3)))
	testAll(t, state(waits(0, hands(s(0), r(1)), 1), waits(1, hands(r(0), s(1)), 1)), chain(link(world, 0, 1)), chain(link(0, 1, 1)))
}

// P15.2: the world sends on In and receives on Out alone.
func TestWorld(t *testing.T) {
	testAll(t, state(waits(0, hands(r(1)), 1)), chain(link(world, 0, 1)))
	testAll(t, state(waits(0, hands(s(2)), 2)), chain(link(world, 0, 2)))
	testAll(t, state(waits(0, hands(s(1)), 1)))
	testAll(t, state(waits(0, hands(r(2)), 2)))
	testAll(t, state(waits(0, hands(s(1), r(2)), 1, 2), waits(1, hands(r(2), s(1)), 1, 2)))
	testAll(t, state(waits(0, hands(s(1), r(1)), 1)), chain(link(world, 0, 1)))
	testAll(t, state(waits(0, hands(r(2), s(2)), 2)), chain(link(world, 0, 2)))
	testAll(t, state(waits(0, hands(r(3), s(3), r(greatest), s(greatest)), 1, 2, 3, greatest)))
	// It is the Waker ahead of all agents, awake or not, but it wakes nobody at the other sides of its channels: agents do.
	testAll(t, state(awake(0, 1, 2), waits(1, hands(r(1)), 1), waits(2, hands(s(1)), 1), waits(3, hands(s(2)), 2), waits(4, hands(r(2)), 2)),
		chain(link(world, 1, 1)), chain(link(0, 2, 1)), chain(link(world, 3, 2)), chain(link(0, 4, 2)))
	testAll(t, state(waits(1, hands(s(1)), 1), waits(2, hands(r(1)), 1), waits(3, hands(r(2)), 2), waits(4, hands(s(2)), 2)),
		chain(link(2, 1, 1)), chain(link(world, 2, 1)), chain(link(4, 3, 2)), chain(link(world, 4, 2)))
	// Whom it has woken wakes others there.
	testAll(t, state(waits(0, hands(s(1)), 1), waits(1, hands(s(2)), 1, 2, 3), waits(2, hands(r(3)), 3)),
		chain(link(world, 1, 2), link(1, 0, 1)), chain(link(world, 1, 2)), chain(link(world, 1, 2), link(1, 2, 3)))
}

// P15.2: two arms that fit wake both, though nobody awake holds the channel; arms of one agent, or of one direction, do not fit.
func TestFit(t *testing.T) {
	testAll(t, state(waits(0, hands(r(3)), 3), waits(1, hands(s(3)), 3)), chain(link(1, 0, 3)), chain(link(0, 1, 3)))
	testAll(t, state(waits(4, hands(s(3), r(3)), 3), waits(6, hands(r(3), s(3)), 3), awake(8, 4)), chain(link(6, 4, 3)), chain(link(4, 6, 3)))
	testAll(t, state(waits(0, hands(r(3)), 3, 4), waits(1, hands(s(4)), 3, 4)))
	testAll(t, state(waits(0, hands(r(3), r(4)), 3, 4), waits(1, hands(r(3), r(4)), 3, 4)))
	testAll(t, state(waits(0, hands(r(3), s(3)), 3), waits(1, nil, 3), waits(2, hands(r(4), s(4)), 3, 4)))
	// The Waker fits the arm itself, not another one there.
	of := state(waits(0, hands(r(3)), 3), waits(1, hands(r(3), s(3)), 3), waits(2, hands(s(3)), 3))
	testAll(t, of, chain(link(1, 0, 3)), chain(link(2, 1, 3)), chain(link(0, 2, 3)))
}

// P15.9: who alone holds what it waits on is dead, in whatever directions.
func TestAlone(t *testing.T) {
	for _, arms := range [][]api.Hand{hands(r(3)), hands(s(3)), hands(r(3), s(3)), hands(s(3), r(3)), hands(r(3), s(4), r(4), s(3)), hands(r(0), s(3), s(3))} {
		testAll(t, state(waits(1, arms, 3, 4)))
		testAll(t, state(awake(0, 1, 2, 5), waits(1, arms, 3, 4), waits(2, hands(r(5)), 1, 2, 5)), chain(link(0, 2, 5)))
		testAll(t, state(awake(0), waits(1, arms, 1, 2, 3, 4), waits(2, hands(r(1)), 1), waits(3, hands(s(2)), 2)), chain(link(world, 2, 1)), chain(link(world, 3, 2)))
	}
}

// ring is so many agents of which each waits for a channel that it and the next one alone hold.
func ring(n int) []api.Agent {
	var out []api.Agent
	for k := range n {
		own, other := 3+k, 3+(k+n-1)%n
		arm := api.Hand{Chan: own, Send: k%3 == 0}
		out = append(out, waits(2*k, hands(arm), min(own, other), max(own, other)))
	}
	return out
}

// P15.9: rings of those that wait for each other are dead, of whatever length; one that is awake in it lets all go on, each by the one behind it.
func TestRings(t *testing.T) {
	for _, n := range []int{2, 3, 4, 5, 17, 300} {
		of := ring(n)
		var all []int
		for _, a := range of {
			all = append(all, a.Id)
		}
		testDead(t, of, all...)
		testDead(t, append(state(of...), awake(greatest, 1, 2, 3+n)), all...)

		opened := state(of...)
		opened[1] = awake(2, of[1].Held...)
		var want []api.Link
		for k := range n - 1 {
			want = append(want, link(2*((1+n-k)%n), 2*((n-k)%n), 3+(n-k)%n))
			testChain(t, opened, want[k].Woken, want...)
		}
		testDead(t, opened)
		testNoChain(t, opened, 2)
	}
}

// P15.9: two rings, and who waits for one of them alone.
func TestRingsBeside(t *testing.T) {
	of := state(
		waits(0, hands(r(3)), 3, 4, 8), waits(1, hands(s(4)), 3, 4), waits(2, hands(r(5)), 5, 6), waits(3, hands(r(6)), 6, 7), waits(4, hands(r(7)), 5, 7),
		waits(5, hands(r(8)), 8), waits(6, hands(s(9)), 7, 9), awake(7, 9))
	testAll(t, of, chain(link(7, 6, 9)), chain(link(7, 6, 9), link(6, 4, 7)), chain(link(7, 6, 9), link(6, 4, 7), link(4, 2, 5)), chain(link(7, 6, 9), link(6, 4, 7), link(4, 2, 5), link(2, 3, 6)))
	testAll(t, of[:7])
}

// row is so many agents behind one that is awake, each of which waits for what the one ahead of it holds.
func row(n int) ([]api.Agent, []api.Link) {
	of, links := state(awake(0, 10)), []api.Link(nil)
	for id := 1; id <= n; id++ {
		of = append(of, waits(id, hands(api.Hand{Chan: 9 + id, Send: id%2 == 0}), 9+id, 10+id))
		links = append(links, link(id-1, id, 9+id))
	}
	return of, links
}

// P15.2, P15.3: long chains, whose links are as many as the level; in either direction of the Ids.
func TestLong(t *testing.T) {
	of, links := row(api.MaxAgents - 1)
	testDead(t, of)
	for _, id := range ids(1, 2, 3, 100, 2047, api.MaxAgents-2, api.MaxAgents-1) {
		if got, ok := detect.Chain(of, id); !ok || !slices.Equal(got, links[:id]) {
			t.Errorf("Chain of %d: %d links, %v", id, len(got), ok)
		}
	}
	if got, e := detect.Dead(of[1:]); e != api.OK || len(got) != api.MaxAgents-1 {
		t.Errorf("without the first one %d are dead, %d", len(got), e)
	}

	const n = 1000
	var back []api.Agent
	var want []api.Link
	for id := range n {
		back = append(back, waits(id, hands(r(10+id)), 9+id, 10+id))
		want = append(want, link(n-id, n-id-1, 10+n-id-1))
	}
	back = append(back, awake(n, 9+n))
	testDead(t, back)
	for _, id := range ids(0, 1, 2, 500, n-2, n-1) {
		if got, ok := detect.Chain(back, id); !ok || !slices.Equal(got, want[:n-id]) {
			t.Errorf("Chain of %d: %d links, %v", id, len(got), ok)
		}
	}
}

// P15.2: of the level 1 the first arm that is so is told, whichever way it is so.
func TestFirstArm(t *testing.T) {
	others := state(awake(1, 4, 5), waits(2, hands(s(6), r(7)), 6, 7, 9), awake(3, 5), waits(4, hands(r(8)), 8), waits(5, hands(s(9)), 9, 10))
	for _, x := range []struct {
		arms  []api.Hand
		waker int
		on    int
	}{
		{hands(r(1), r(4), r(6)), world, 1}, {hands(r(4), r(1), r(6)), 1, 4}, {hands(r(6), r(1), r(4)), 2, 6}, {hands(s(7), s(2), s(4)), 2, 7},
		{hands(s(5), r(4)), 1, 5}, {hands(s(4), s(5)), 1, 4}, {hands(s(2), r(1)), world, 2}, {hands(r(1), s(2)), world, 1},
		// Those ahead of it that are none: on nil, the other sides of the world's, the same direction, held by who waits, by nobody.
		{hands(r(0), s(0), s(1), r(2), s(6), r(7), r(8), r(10), s(10), r(11), s(11), s(8), r(1)), 4, 8},
		{hands(s(1), r(2), r(1)), world, 1}, {hands(r(2), s(1), s(2)), world, 2}, {hands(s(6), r(6)), 2, 6}, {hands(r(11), r(9), r(1)), 5, 9},
	} {
		of := append(state(waits(0, x.arms, 1, 2, 4, 5, 6, 7, 8, 9, 10, 11)), others...)
		testChain(t, of, 0, link(x.waker, 0, x.on))
	}
}

// P15.2: of the level 1 the Waker is the world, else the smallest Id of those awake that hold Chan, else the smallest of the others whose arm fits.
func TestFirstWaker(t *testing.T) {
	one := func(arm api.Hand) api.Agent { return waits(4, hands(arm), 1, 2, 3) }
	around := func(arm api.Hand, more ...api.Agent) []api.Agent {
		out := append(state(waits(0, nil, 1, 2, 3), waits(1, hands(s(3), s(1)), 1, 2, 3), waits(2, hands(s(1), r(2), s(3)), 1, 2, 3), one(arm), waits(5, hands(s(3), r(3), r(2)), 2, 3)), more...)
		slices.SortFunc(out, func(a, b api.Agent) int { return a.Id - b.Id })
		return out
	}
	testChain(t, around(r(3)), 4, link(1, 4, 3))
	testChain(t, around(s(3)), 4, link(5, 4, 3))
	testChain(t, around(r(3), awake(9, 3), awake(7, 2, 3), awake(6, 2)), 4, link(7, 4, 3))
	testChain(t, around(s(3), awake(9, 3), awake(6, 1, 2)), 4, link(9, 4, 3))
	testChain(t, around(s(3), awake(3, 3), awake(6, 3)), 4, link(3, 4, 3))
	testChain(t, around(r(1), awake(3, 1)), 4, link(world, 4, 1))
	testChain(t, around(s(2), awake(3, 2)), 4, link(world, 4, 2))
	testChain(t, around(s(1), awake(8, 1), awake(9, 1)), 4, link(8, 4, 1))
	testChain(t, around(r(2), awake(8, 2), awake(9, 1)), 4, link(8, 4, 2))
	testChain(t, around(s(1)), 4, link(5, 1, 3), link(1, 4, 1))
	testChain(t, around(r(2)), 4, link(5, 1, 3), link(1, 4, 2))
	// The one whose arms fit is another one, however many of its own would.
	testChain(t, state(waits(0, hands(r(3), s(3)), 3), waits(1, hands(r(4), s(4)), 4), waits(2, hands(s(3)), 3), waits(3, hands(s(3)), 3)), 0, link(2, 0, 3))
	testChain(t, state(waits(0, hands(r(4)), 3, 4), waits(1, hands(r(3), r(3), s(3), s(3)), 3), waits(2, hands(r(3)), 3)), 1, link(2, 1, 3))
}

// P15.2: of a level k above 1 the first arm whose channel one of the level k - 1 holds is told, and the smallest Id of these.
func TestLaterWaker(t *testing.T) {
	of := state(
		waits(0, hands(r(20), r(12), r(11)), 11, 12, 20), // of the level 3: at 20 only one of the level 4 waits
		waits(1, nil, 11, 12, 13, 14),                    // dead
		waits(2, hands(r(12)), 11, 12, 13, 14),           // of the level 3
		waits(3, hands(r(14), r(13)), 11, 13, 14),        // of the level 2, by the second one that might
		waits(5, hands(r(13), r(13)), 12, 13),            // of the level 2
		waits(6, hands(r(14)), 11, 12, 14),               // of the level 2
		waits(7, hands(r(10)), 10, 13), waits(8, hands(r(10)), 10, 13, 14), awake(9, 1, 10), awake(11, 10),
		waits(12, hands(r(14)), 14), // of the level 2
		waits(13, hands(r(20)), 20)) // of the level 4
	testAll(t, of,
		chain(link(9, 7, 10)), chain(link(9, 8, 10)),
		chain(link(9, 8, 10), link(8, 3, 14)), chain(link(9, 7, 10), link(7, 5, 13)), chain(link(9, 8, 10), link(8, 6, 14)), chain(link(9, 8, 10), link(8, 12, 14)),
		chain(link(9, 7, 10), link(7, 5, 13), link(5, 0, 12)), chain(link(9, 7, 10), link(7, 5, 13), link(5, 2, 12)),
		chain(link(9, 7, 10), link(7, 5, 13), link(5, 0, 12), link(0, 13, 20)))
}

// P15.3: an arm by which the level would be greater is passed over, though it stands first.
func TestLeastLevel(t *testing.T) {
	of := state(
		waits(0, hands(r(5), r(6), r(4)), 4, 5, 6), awake(1, 3), waits(2, hands(r(3)), 3, 4), waits(3, hands(r(4)), 4, 5), waits(4, hands(r(5)), 5, 6))
	testAll(t, of, chain(link(1, 2, 3)), chain(link(1, 2, 3), link(2, 0, 4)), chain(link(1, 2, 3), link(2, 3, 4)), chain(link(1, 2, 3), link(2, 0, 4), link(0, 4, 5)))
	// At once, though others that are woken would hold it.
	testAll(t, state(waits(0, hands(r(4), r(3)), 3, 4), awake(1, 3), waits(2, hands(r(3)), 3, 4)), chain(link(1, 0, 3)), chain(link(1, 2, 3)))
	testAll(t, state(waits(0, hands(r(4), s(1), r(1)), 1, 4), awake(1, 3), waits(2, hands(r(3)), 3, 4)), chain(link(world, 0, 1)), chain(link(1, 2, 3)))
	testAll(t, state(waits(0, hands(r(4), s(5)), 4, 5), waits(2, hands(r(1)), 1, 4), waits(9, hands(r(5)), 5)), chain(link(9, 0, 5)), chain(link(world, 2, 1)), chain(link(0, 9, 5)))
}

// P15.3: there is no chain of who is not there, who is awake, who is dead.
func TestNoChain(t *testing.T) {
	of := state(waits(1, hands(r(1)), 1, 5), awake(3, 1, 2, 3), waits(4, hands(r(3)), 3), waits(6, hands(r(4)), 4), waits(8, hands(s(5)), 5))
	testAll(t, of, chain(link(world, 1, 1)), chain(link(3, 4, 3)), chain(link(world, 1, 1), link(1, 8, 5)))
	for _, id := range ids(least, -2, world, 0, 2, 3, 5, 6, 7, 9, greatest) {
		testNoChain(t, of, id)
	}
}

// P15.1 to P15.3: the greatest and the least numbers as Ids and channels.
func TestNumbers(t *testing.T) {
	of := state(
		waits(0, hands(r(greatest)), 1, greatest), waits(1, hands(s(1)), 1), waits(2, hands(r(greatest-1)), greatest-1),
		waits(greatest-1, hands(r(0), s(greatest)), greatest-2, greatest), waits(greatest, hands(s(greatest-2)), greatest-2))
	testAll(t, of,
		chain(link(greatest-1, 0, greatest)), chain(link(greatest-1, 0, greatest), link(0, 1, 1)),
		chain(link(0, greatest-1, greatest)), chain(link(0, greatest-1, greatest), link(greatest-1, greatest, greatest-2)))
	for _, id := range ids(least, least+1, world, greatest-2) {
		testNoChain(t, of, id)
	}
	testAll(t, state(waits(greatest-1, hands(r(greatest)), greatest), awake(greatest, greatest)), chain(link(greatest, greatest-1, greatest)))
	testAll(t, state(waits(greatest-1, hands(r(greatest)), greatest), awake(greatest, greatest-1)))
	testAll(t, state(waits(greatest, hands(r(1)), 1, greatest)), chain(link(world, greatest, 1)))
}

// upTo are the channels 1 to n.
func upTo(n int) []int {
	out := make([]int, n)
	for k := range out {
		out[k] = k + 1
	}
	return out
}

// R1: very many arms that are alike, very many channels, and very many that wait the same way, end soon.
func TestMany(t *testing.T) {
	const n = 300000
	alike := slices.Concat(slices.Repeat(hands(s(5)), n), slices.Repeat(hands(r(5)), n))
	testDead(t, state(waits(0, alike, 5)), 0)
	testAll(t, state(waits(0, alike, 5), waits(1, alike, 5)), chain(link(1, 0, 5)), chain(link(0, 1, 5)))
	testAll(t, state(awake(0, upTo(n)...), waits(1, hands(s(n-1)), upTo(n)...), waits(2, hands(r(n+1)), n+1)), chain(link(0, 1, n-1)))

	// All arms ahead of those that do are to be looked at once, not once for each that does.
	var arms []api.Hand
	for _, c := range upTo(n)[3:] {
		arms = append(arms, r(c))
	}
	opener := waits(1, hands(r(1)), append(ids(1), upTo(n)[n/2:]...)...)
	testAll(t, state(waits(0, arms, upTo(n)...), opener), chain(link(world, 1, 1)), chain(link(world, 1, 1), link(1, 0, n/2+1)))

	arms = arms[:200]
	var of []api.Agent
	for id := range api.MaxAgents - 1 {
		of = append(of, waits(id, arms, upTo(203)...))
	}
	if got, e := detect.Dead(of); e != api.OK || len(got) != api.MaxAgents-1 {
		t.Errorf("%d are dead, %d", len(got), e)
	}
	of = append(of, waits(api.MaxAgents-1, hands(s(7)), 7))
	testDead(t, of)
	testChain(t, of, 77, link(api.MaxAgents-1, 77, 7))
}
