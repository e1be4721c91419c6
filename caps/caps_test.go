package caps_test

import (
	"math"
	"reflect"
	"slices"
	"testing"

	"squint/api"
	"squint/caps"
)

const (
	least    = math.MinInt
	greatest = math.MaxInt
	world    = -1
)

func s(channel int) api.Hand { return api.Hand{Chan: channel, Send: true} }

func r(channel int) api.Hand { return api.Hand{Chan: channel} }

func hands(l ...api.Hand) []api.Hand { return l }

func held(l ...int) []int { return l }

func awake(id int, held ...int) api.Agent { return api.Agent{Id: id, Awake: true, Held: held} }

func waits(id int, arms []api.Hand, held ...int) api.Agent {
	return api.Agent{Id: id, Arms: arms, Held: held}
}

func state(l ...api.Agent) []api.Agent { return l }

func link(waker, woken, channel int) api.Link {
	return api.Link{Waker: waker, Woken: woken, Chan: channel}
}

func links(l ...api.Link) []api.Link { return l }

// same tells whether two states are, an empty list and none being the same.
func same(a, b []api.Agent) bool {
	return slices.EqualFunc(a, b, func(x, y api.Agent) bool {
		return x.Id == y.Id && x.Awake == y.Awake && slices.Equal(x.Arms, y.Arms) && slices.Equal(x.Held, y.Held)
	})
}

// testTake holds Take's answer against what it must be.
func testTake(t *testing.T, before []api.Agent, l api.Link, want []api.Agent, code api.Errno) {
	t.Helper()
	if got, e := caps.Take(before, l); e != code || !same(got, want) {
		t.Errorf("Take(%v, %v): %v, %d, not %v, %d", before, l, got, e, want, code)
	}
	if got := caps.Fits(before, l); got != (code == api.OK) {
		t.Errorf("Fits(%v, %v): %v", before, l, got)
	}
}

// testLinks holds what Links and Fits tell of a state against all links that fit it.
func testLinks(t *testing.T, of []api.Agent, want ...api.Link) {
	t.Helper()
	if e := caps.Check(of); e != api.OK {
		t.Errorf("Check(%v): %d", of, e)
	}
	if got := caps.Links(of); !slices.Equal(got, want) {
		t.Errorf("Links(%v): %v, not %v", of, got, want)
	}
	for _, l := range want {
		if !caps.Fits(of, l) {
			t.Errorf("Fits(%v, %v): false", of, l)
		}
	}
}

// example is the state of the chapter's examples.
func example() []api.Agent {
	return state(
		awake(0, 1, 2, 3), waits(1, hands(r(3)), 3), waits(2, hands(r(4)), 4),
		waits(3, hands(s(4)), 4, 5), waits(4, hands(r(0))),
	)
}

// P14.1 to P14.4: the chapter's examples.
func TestExamples(t *testing.T) {
	testLinks(t, example(), link(0, 1, 3), link(3, 2, 4), link(2, 3, 4))
	testNoStates(t,
		state(api.Agent{Awake: true, Arms: hands(r(3)), Held: held(3)}), state(waits(0, hands(r(3)))), state(waits(1, nil), waits(0, nil)))

	behind := state(awake(0, 1, 2, 3), waits(1, hands(r(3)), 3), awake(2, 4), awake(3, 4, 5), waits(4, hands(r(0))))
	testTake(t, example(), link(3, 2, 4), behind, api.OK)
	testLinks(t, behind, link(0, 1, 3))
	testTake(t, example(), link(0, 2, 4), nil, api.ErrCapsLink)
	testTake(t, example(), link(-1, 1, 3), nil, api.ErrCapsLink)

	testLinks(t, state(waits(0, hands(r(1)), 1, 2)), link(-1, 0, 1))
	testLinks(t, state(waits(0, hands(s(1)), 1)))
	testLinks(t, state(waits(0, hands(s(3), r(3)), 3)))
}

// testNoStates tests that lists are refused by all calls, also where a link would fit.
func testNoStates(t *testing.T, lists ...[]api.Agent) {
	t.Helper()
	for _, l := range lists {
		if e := caps.Check(l); e != api.ErrCapsState {
			t.Errorf("Check(%v): %d", l, e)
		}
		if got := caps.Links(l); len(got) > 0 {
			t.Errorf("Links(%v): %v", l, got)
		}
		for _, m := range links(link(0, 1, 5), link(1, 0, 5), link(-1, 0, 1), link(-1, 1, 1), link(-1, -1, 1), link(0, 0, 0)) {
			if caps.Fits(l, m) {
				t.Errorf("Fits(%v, %v): true", l, m)
			}
			if got, e := caps.Take(l, m); len(got) > 0 || e != api.ErrCapsState {
				t.Errorf("Take(%v, %v): %v, %d", l, m, got, e)
			}
		}
	}
}

// numbered are agents with these Ids, that would wake each other on 5 and be woken by the world.
func numbered(ids []int) []api.Agent {
	var out []api.Agent
	for _, id := range ids {
		out = append(out, waits(id, hands(r(1), s(5), r(5)), 1, 5))
	}
	return out
}

// P14.1: each Id is 0 or above, and above that of the agent ahead.
func TestIds(t *testing.T) {
	for _, ids := range [][]int{
		{-1}, {least}, {-1, 0}, {-1, 0, 1}, {-2, -1}, {least, greatest}, {0, -1}, {0, 1, -1}, {0, 1, least}, {greatest, least},
		{0, 0}, {1, 1}, {greatest, greatest}, {0, 0, 1}, {0, 1, 1}, {0, 1, 0}, {0, 1, 2, 2}, {0, 1, 2, 0}, {-1, -1},
		{1, 0}, {3, 2}, {greatest, 0}, {greatest, greatest - 1}, {0, 2, 1}, {2, 0, 1}, {1, 0, 2}, {5, 6, 7, 4}, {5, 6, 4, 7},
	} {
		testNoStates(t, numbered(ids))
	}
	for _, ids := range [][]int{nil, {0}, {1}, {7}, {greatest}, {0, 1}, {0, 7}, {3, 4, 9}, {0, greatest}, {greatest - 1, greatest}} {
		if e := caps.Check(numbered(ids)); e != api.OK {
			t.Errorf("Check(%v): %d", ids, e)
		}
	}
	if e := caps.Check([]api.Agent{}); e != api.OK {
		t.Errorf("Check of nobody: %d", e)
	}
}

// crew is so many agents of which the first one is awake and the others wait for it.
func crew(n int) []api.Agent {
	out := state(awake(0, 5))
	for id := 1; id < n; id++ {
		out = append(out, waits(id, hands(r(5)), 5))
	}
	return out
}

// P14.1: there are at most MaxAgents agents.
func TestMaxAgents(t *testing.T) {
	for _, n := range []int{api.MaxAgents - 1, api.MaxAgents} {
		l := crew(n)
		var want []api.Link
		for id := 1; id < n; id++ {
			want = append(want, link(0, id, 5))
		}
		if e := caps.Check(l); e != api.OK {
			t.Errorf("Check of %d agents: %d", n, e)
		}
		if got := caps.Links(l); !slices.Equal(got, want) {
			t.Errorf("Links of %d agents: %d", n, len(got))
		}
		after, e := caps.Take(l, link(0, n-1, 5))
		if e != api.OK || len(after) != n || !after[n-1].Awake || len(after[n-1].Arms) > 0 || after[n-2].Awake || !same(after[:n-1], l[:n-1]) {
			t.Errorf("Take of %d agents: %d agents, %d", n, len(after), e)
		}
	}
	for _, n := range []int{api.MaxAgents + 1, 2 * api.MaxAgents, 300000} {
		l := crew(n)
		_, e := caps.Take(l, link(0, 1, 5))
		if caps.Check(l) != api.ErrCapsState || len(caps.Links(l)) > 0 || caps.Fits(l, link(0, 1, 5)) || e != api.ErrCapsState {
			t.Errorf("%d agents are taken", n)
		}
	}
	if e := caps.Check(make([]api.Agent, api.MaxAgents+1)); e != api.ErrCapsState {
		t.Errorf("Check of many that are alike: %d", e)
	}
}

// P14.1: an agent that is awake has no arms, not even on nil or on what it holds; one that waits may have none.
func TestAwakeArms(t *testing.T) {
	for _, arms := range [][]api.Hand{hands(r(0)), hands(s(0)), hands(r(5)), hands(s(5)), hands(r(1)), hands(r(0), s(5))} {
		wrong := api.Agent{Id: 1, Awake: true, Arms: arms, Held: held(1, 5)}
		other := waits(0, hands(r(1), r(5)), 1, 5)
		testNoStates(t, state(wrong), state(other, wrong), state(other, wrong, waits(2, nil)))
	}
	testLinks(t, state(awake(0), waits(1, nil), waits(2, nil, 1, 2, 3), waits(3, []api.Hand{}), api.Agent{Id: 4, Awake: true, Arms: []api.Hand{}, Held: []int{}}))
}

// P14.1: the numbers of Held are 1 or above, each above the one ahead; of who waits, too.
func TestHeld(t *testing.T) {
	for _, l := range [][]int{
		{0}, {-1}, {least}, {0, 1}, {0, 5}, {-1, 5}, {5, 5}, {1, 1}, {1, 5, 5}, {1, 1, 5}, {5, 1}, {5, 0}, {5, -1}, {5, least}, {1, 5, 3}, {3, 1, 5}, {1, 5, 1},
		{greatest, greatest}, {greatest, least}, {greatest, 1}, {least, greatest},
	} {
		ahead, behind := waits(0, hands(r(1), r(5)), 1, 5), waits(2, nil)
		testNoStates(t, state(awake(1, l...)), state(ahead, awake(1, l...)), state(ahead, waits(1, nil, l...)), state(ahead, awake(1, l...), behind))
	}
	for _, l := range [][]int{{1}, {2}, {greatest}, {1, 2}, {1, greatest}, {3, 5, 9}, {greatest - 1, greatest}} {
		if e := caps.Check(state(awake(0, l...), waits(1, nil, l...), waits(2, hands(r(l[0]), s(l[len(l)-1]), r(0)), l...))); e != api.OK {
			t.Errorf("Check of %v: %d", l, e)
		}
	}
}

// P14.1: each arm's channel is 0 or one of the agent's own Held.
func TestArmsHeld(t *testing.T) {
	other := waits(0, hands(r(5), s(5), r(1)), 1, 5, 6)
	for _, arm := range hands(r(3), s(3), r(7), s(7), r(-1), s(-1), r(least), s(least), r(greatest), s(greatest), r(4), s(2)) {
		testNoStates(t,
			state(waits(1, hands(arm))), state(waits(1, hands(arm), 1, 5, 6)), state(other, waits(1, hands(arm), 1, 5, 6)),
			state(other, waits(1, hands(r(5), arm), 1, 5, 6)), state(other, waits(1, hands(arm, r(5)), 1, 5, 6)),
			state(other, waits(1, hands(arm), 1, 5, 6), waits(2, nil)))
	}
	// What another agent holds does not help, and a channel beside the others' is none of them.
	testNoStates(t, state(waits(0, hands(r(5)), 1), waits(1, hands(s(5)), 5)), state(awake(0, 5), waits(1, hands(r(5)))))
	for _, arm := range hands(r(0), s(0), r(2), s(2), r(5), s(5), r(greatest), s(greatest)) {
		if e := caps.Check(state(waits(1, hands(arm, r(0), arm), 2, 5, greatest))); e != api.OK {
			t.Errorf("Check with %v: %d", arm, e)
		}
	}
}

// testFits holds Fits, Links and Take against whether a link fits.
func testFits(t *testing.T, of []api.Agent, l api.Link, want bool) {
	t.Helper()
	if got := caps.Fits(of, l); got != want {
		t.Errorf("Fits(%v, %v): %v", of, l, got)
	}
	if got := slices.Contains(caps.Links(of), l); got != want {
		t.Errorf("Links(%v) has %v: %v", of, l, got)
	}
	if got, e := caps.Take(of, l); (e == api.OK) != want || !want && (e != api.ErrCapsLink || len(got) > 0) {
		t.Errorf("Take(%v, %v): %v, %d", of, l, got, e)
	}
}

// P14.2: Woken is an agent that waits with an arm on Chan, which is 1 or above.
func TestWoken(t *testing.T) {
	of := state(awake(2, 1, 2, 3, 4, 5), waits(4, hands(r(0), s(0), r(3), s(5)), 3, 4, 5), waits(6, nil, 3), awake(8, 3, 5), waits(10, hands(s(3), r(0)), 3))
	for _, l := range links(link(2, 4, 3), link(2, 4, 5), link(8, 4, 3), link(10, 4, 3), link(2, 10, 3), link(4, 10, 3)) {
		testFits(t, of, l, true)
	}
	for _, l := range links(
		link(2, 4, 0), link(10, 4, 0), link(4, 10, 0), link(world, 4, 0), link(2, 4, -1), link(2, 4, -3), link(2, 4, least), link(2, 4, greatest), // no channel
		link(2, 4, 4), link(2, 4, 1), link(2, 4, 2), link(2, 6, 3), link(2, 10, 5), // no arm there, also where Woken holds it
		link(2, 8, 3), link(8, 2, 3), link(10, 2, 3), link(4, 8, 3), link(4, 8, 5), // awake
		link(2, 3, 3), link(2, 0, 3), link(2, 9, 3), link(2, 11, 3), link(2, -2, 3), link(2, greatest, 3), link(2, least, 3), link(2, world, 1), link(2, world, 2), // no agent
		link(4, 1, 3), link(4, 2, 3), link(10, 0, 3), // a place in the list is no Id
	) {
		testFits(t, of, l, false)
	}
}

// P14.2: Waker is another agent: awake, and holding Chan; or with an arm there that fits.
func TestWaker(t *testing.T) {
	of := state(
		waits(1, hands(r(3)), 3), awake(2, 3, 4), awake(3, 2, 4), waits(4, hands(s(3)), 3), waits(5, hands(r(3), r(4)), 3, 4),
		waits(6, hands(r(0), s(4)), 3, 4), waits(7, nil, 3), awake(8), waits(9, hands(s(4), r(3), s(3)), 3, 4),
	)
	for _, l := range links(link(2, 1, 3), link(4, 1, 3), link(9, 1, 3), link(1, 4, 3), link(5, 4, 3), link(9, 4, 3), link(2, 4, 3), link(6, 5, 4), link(3, 5, 4), link(3, 6, 4)) {
		testFits(t, of, l, true)
	}
	for _, l := range links(
		link(1, 1, 3), link(4, 4, 3), link(9, 9, 3), // itself
		link(3, 1, 3), link(8, 1, 3), // awake, and does not hold it
		link(5, 1, 3), link(9, 6, 4), // the same direction
		link(6, 1, 3), link(7, 1, 3), // holds it and waits, without an arm there
		link(world, 1, 3), link(world, 4, 3), // the world
		link(-2, 1, 3), link(0, 1, 3), link(10, 1, 3), link(least, 1, 3), link(greatest, 1, 3), // no agent
	) {
		testFits(t, of, l, false)
	}
	testLinks(t, of,
		link(2, 1, 3), link(4, 1, 3), link(9, 1, 3),
		link(1, 4, 3), link(2, 4, 3), link(5, 4, 3), link(9, 4, 3),
		link(2, 5, 3), link(4, 5, 3), link(9, 5, 3), link(2, 5, 4), link(3, 5, 4), link(6, 5, 4), link(9, 5, 4),
		link(2, 6, 4), link(3, 6, 4), link(5, 6, 4),
		link(1, 9, 3), link(2, 9, 3), link(4, 9, 3), link(5, 9, 3), link(2, 9, 4), link(3, 9, 4), link(5, 9, 4))
}

// P14.2, P14.3: the world sends on In and receives on Out alone; agents wake each other there likewise.
func TestWorld(t *testing.T) {
	testLinks(t, state(waits(0, hands(r(1)), 1)), link(world, 0, 1))
	testLinks(t, state(waits(0, hands(s(1)), 1)))
	testLinks(t, state(waits(0, hands(s(2)), 2)), link(world, 0, 2))
	testLinks(t, state(waits(0, hands(r(2)), 2)))
	testLinks(t, state(waits(0, hands(s(1), r(1)), 1)), link(world, 0, 1))
	testLinks(t, state(waits(0, hands(r(2), s(2)), 2)), link(world, 0, 2))
	testLinks(t, state(waits(0, hands(r(3), s(3), r(4), s(4), r(greatest), s(greatest)), 3, 4, greatest)))
	testLinks(t, state(waits(0, hands(r(1), r(2)), 1, 2), waits(1, hands(s(1), s(2)), 1, 2)),
		link(world, 0, 1), link(1, 0, 1), link(1, 0, 2), link(0, 1, 1), link(world, 1, 2), link(0, 1, 2))
	testLinks(t, state(waits(0, hands(s(1)), 1), awake(1, 1, 2), waits(2, hands(r(2)), 2)), link(1, 0, 1), link(1, 2, 2))
	// The world is not woken, whoever might.
	of := state(waits(0, hands(r(1), s(2)), 1, 2), awake(1, 1, 2))
	for _, l := range links(link(0, world, 1), link(0, world, 2), link(1, world, 1), link(1, world, 2), link(world, world, 1), link(world, 1, 1), link(-2, 0, 1), link(least, 0, 1)) {
		testFits(t, of, l, false)
	}
	testFits(t, of, link(world, 0, 1), true)
	testFits(t, of, link(world, 0, 2), true)
	// The world is no agent: it stays as it is.
	testTake(t, of, link(world, 0, 2), state(awake(0, 1, 2), awake(1, 1, 2)), api.OK)
}

// P14.3: each link once, though several arms would do, and arms in any order.
func TestOnce(t *testing.T) {
	testLinks(t, state(waits(0, hands(r(3), r(3), r(3)), 3), waits(1, hands(s(3), s(3)), 3)), link(1, 0, 3), link(0, 1, 3))
	testLinks(t, state(waits(0, hands(s(3), r(3)), 3), waits(5, hands(r(3), s(3), r(3)), 3)), link(5, 0, 3), link(0, 5, 3))
	testLinks(t, state(waits(0, hands(s(3), r(3), s(3), r(3)), 3), awake(1, 3)), link(1, 0, 3))
	testLinks(t, state(waits(0, hands(r(1), r(1), s(1)), 1), awake(1, 1)), link(world, 0, 1), link(1, 0, 1))
	testLinks(t, state(waits(0, hands(s(2), s(2), r(2)), 2), waits(1, hands(s(2), r(2)), 2)),
		link(world, 0, 2), link(1, 0, 2), link(world, 1, 2), link(0, 1, 2))
}

// P14.3: by rising Woken, of one Woken by rising Chan, of these by rising Waker, the world ahead of all agents.
func TestOrder(t *testing.T) {
	testLinks(t,
		state(
			awake(1, 1, 3, 7, greatest), waits(3, hands(s(7), r(greatest), s(3), r(1)), 1, 3, 7, greatest), awake(4, 3, 7, greatest),
			waits(6, hands(r(7), r(3)), 3, 7), awake(9, 1, 7), waits(20, hands(s(greatest), s(1), r(7)), 1, 7, greatest)),
		link(world, 3, 1), link(1, 3, 1), link(9, 3, 1), link(20, 3, 1), link(1, 3, 3), link(4, 3, 3), link(6, 3, 3),
		link(1, 3, 7), link(4, 3, 7), link(6, 3, 7), link(9, 3, 7), link(20, 3, 7), link(1, 3, greatest), link(4, 3, greatest), link(20, 3, greatest),
		link(1, 6, 3), link(3, 6, 3), link(4, 6, 3), link(1, 6, 7), link(3, 6, 7), link(4, 6, 7), link(9, 6, 7),
		link(1, 20, 1), link(3, 20, 1), link(9, 20, 1), link(1, 20, 7), link(3, 20, 7), link(4, 20, 7), link(9, 20, 7), link(1, 20, greatest), link(3, 20, greatest), link(4, 20, greatest))
}

// P14.2 to P14.4: the greatest and the least numbers as Ids and channels.
func TestNumbers(t *testing.T) {
	of := state(waits(0, hands(r(greatest)), greatest), awake(greatest-1, greatest), waits(greatest, hands(s(greatest), s(1)), 1, greatest))
	testLinks(t, of, link(greatest-1, 0, greatest), link(greatest, 0, greatest), link(0, greatest, greatest), link(greatest-1, greatest, greatest))
	testTake(t, of, link(greatest, 0, greatest), state(awake(0, greatest), awake(greatest-1, greatest), awake(greatest, 1, greatest)), api.OK)
	for _, l := range links(
		link(greatest, 0, greatest-1), link(greatest, 0, least), link(least, 0, greatest), link(0, least, greatest), link(least, least, least), link(greatest, greatest, greatest),
		link(world, 0, greatest), link(world, greatest, 1), link(world, greatest, greatest)) {
		testFits(t, of, l, false)
	}
}

// P14.4: Check's error comes first, then ErrCapsLink; beside an error there is no state.
func TestTakeErrors(t *testing.T) {
	for _, l := range links(link(0, 1, 5), link(0, 1, 6), link(0, 0, 0)) {
		testTake(t, state(waits(1, nil), awake(0, 5)), l, nil, api.ErrCapsState)
		testTake(t, state(awake(0, 5), waits(1, hands(r(5)), 5), waits(1, nil)), l, nil, api.ErrCapsState)
	}
	testTake(t, state(awake(0, 5), waits(1, hands(r(5)), 5)), link(0, 1, 5), state(awake(0, 5), awake(1, 5)), api.OK)
	testTake(t, state(awake(0, 5), waits(1, hands(r(5)), 5)), link(0, 1, 6), nil, api.ErrCapsLink)
	testTake(t, nil, link(0, 0, 0), nil, api.ErrCapsLink)
	testTake(t, nil, link(world, 0, 1), nil, api.ErrCapsLink)
}

// P14.4: behind a link Woken is awake, and Waker, both without arms; all else stays, Held too.
func TestTake(t *testing.T) {
	before := func() []api.Agent {
		return state(
			waits(0, hands(r(1), r(3)), 1, 3, 8), awake(2, 2, 3), waits(3, hands(s(3), s(2), r(0)), 2, 3, 4),
			waits(5, hands(r(3), r(3)), 3), waits(6, nil, 3), waits(7, hands(s(0))))
	}
	for _, x := range []struct {
		l    api.Link
		wake []int
	}{
		{link(world, 0, 1), held(0)}, {link(world, 3, 2), held(3)}, {link(2, 0, 3), held(0)}, {link(2, 3, 2), held(3)}, {link(2, 5, 3), held(5)},
		{link(3, 0, 3), held(0, 3)}, {link(0, 3, 3), held(0, 3)}, {link(5, 3, 3), held(3, 5)}, {link(3, 5, 3), held(3, 5)},
	} {
		want := before()
		for k, a := range want {
			if slices.Contains(x.wake, a.Id) {
				want[k] = awake(a.Id, a.Held...)
			}
		}
		testTake(t, before(), x.l, want, api.OK)
	}
}

// P14.3, P14.4: what one link wakes wakes others in its turn.
func TestLinkBehindLink(t *testing.T) {
	of := state(waits(0, hands(r(3)), 3, 4), waits(1, hands(r(4)), 4, 5), waits(2, hands(s(5)), 5), awake(3, 3))
	testFits(t, of, link(0, 1, 4), false)
	for k, l := range links(link(3, 0, 3), link(0, 1, 4), link(1, 2, 5)) {
		testLinks(t, of, l)
		after, e := caps.Take(of, l)
		if e != api.OK {
			t.Fatalf("Take(%v, %v): %d", of, l, e)
		}
		if behind := after[k]; !behind.Awake || !reflect.DeepEqual(behind.Held, of[k].Held) {
			t.Errorf("Take(%v, %v): %v", of, l, after)
		}
		of = after
	}
	testLinks(t, of)
}

// P14.7: no link where nobody is awake, no two arms fit, and no arm is the world's.
func TestNoLink(t *testing.T) {
	for _, of := range [][]api.Agent{
		nil, {}, state(waits(0, nil)), state(waits(0, nil, 1, 2, 3), waits(1, nil, 1, 2, 3)),
		state(waits(0, hands(r(0), s(0))), waits(1, hands(s(0), r(0)))),
		state(waits(0, hands(r(3)), 3, 4), waits(1, hands(r(4)), 3, 4)),
		state(waits(0, hands(r(3)), 3, 4), waits(1, hands(s(4)), 3, 4)),
		state(waits(0, hands(r(3)), 3), waits(1, hands(r(3)), 3), waits(2, hands(r(3)), 3)),
		state(waits(0, hands(s(3)), 3), waits(1, hands(s(3)), 3), waits(2, nil, 3)),
		state(waits(0, hands(s(1), r(2)), 1, 2), waits(1, hands(s(1), r(2)), 1, 2)),
		state(waits(0, hands(s(3), r(3)), 3), waits(1, hands(s(4), r(4)), 4)),
		state(awake(0, 1, 2, 3), awake(1, 1, 2, 3)), state(awake(0), waits(1, hands(r(3), s(1)), 1, 3)),
	} {
		testLinks(t, of)
	}
}
