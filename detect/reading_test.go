package detect_test

import (
	"math/rand/v2"
	"slices"
	"testing"

	"squint/api"
	"squint/caps"
	"squint/detect"
)

// never is the level of the dead, and how many links wake them.
const never = greatest

// wakeful tells by bits which of at most 64 agents are awake.
func wakeful(of []api.Agent) (bits uint64) {
	for k, a := range of {
		if a.Awake {
			bits |= 1 << k
		}
	}
	return bits
}

// fewest tells of each agent how few links wake it, by going through all states that links make of a state: the words of P15.1 and P15.5.
func fewest(of []api.Agent) []int {
	out := slices.Repeat(ids(never), len(of))
	seen := map[uint64]int{wakeful(of): 0}
	for now := [][]api.Agent{of}; len(now) > 0; now = now[1:] {
		n := seen[wakeful(now[0])]
		for k, a := range now[0] {
			if a.Awake {
				out[k] = min(out[k], n)
			}
		}
		for _, l := range caps.Links(now[0]) {
			next, _ := caps.Take(now[0], l)
			if _, again := seen[wakeful(next)]; !again {
				seen[wakeful(next)] = n + 1
				now = append(now, next)
			}
		}
	}
	return out
}

// holds tells whether an agent holds a channel.
func holds(a api.Agent, channel int) bool { return slices.Contains(a.Held, channel) }

// fits tells whether an arm fits one of an agent's.
func fits(arm api.Hand, a api.Agent) bool {
	return arm.Chan != 0 && slices.Contains(a.Arms, api.Hand{Chan: arm.Chan, Send: !arm.Send})
}

// direct tells of an agent's arm whether it is of the level 1 by that, and who the Waker is then.
func direct(of []api.Agent, k int, arm api.Hand) (int, bool) {
	if arm == r(1) || arm == s(2) {
		return world, true
	}
	for _, a := range of {
		if a.Awake && holds(a, arm.Chan) {
			return a.Id, true
		}
	}
	for at, a := range of {
		if at != k && !a.Awake && fits(arm, a) {
			return a.Id, true
		}
	}
	return 0, false
}

// isDirect tells whether an agent is of the level 1.
func isDirect(of []api.Agent, k int) bool {
	return slices.ContainsFunc(of[k].Arms, func(arm api.Hand) bool {
		_, ok := direct(of, k, arm)
		return ok
	})
}

// readLevels is P15.2, word by word: of each agent its level.
func readLevels(of []api.Agent) []int {
	levels := slices.Repeat(ids(never), len(of))
	for k, a := range of {
		if a.Awake {
			levels[k] = 0
		} else if isDirect(of, k) {
			levels[k] = 1
		}
	}
	for changed := true; changed; {
		changed = false
		for k, a := range of {
			if levels[k] > 1 {
				for at, b := range of {
					if at != k && levels[at] < never && levels[at]+1 < levels[k] && slices.ContainsFunc(a.Arms, func(arm api.Hand) bool { return holds(b, arm.Chan) }) {
						levels[k], changed = levels[at]+1, true
					}
				}
			}
		}
	}
	return levels
}

// readLink is the agent's link, of a level above 0.
func readLink(of []api.Agent, levels []int, k int) api.Link {
	for _, arm := range of[k].Arms {
		if levels[k] == 1 {
			if waker, ok := direct(of, k, arm); ok {
				return link(waker, of[k].Id, arm.Chan)
			}
			continue
		}
		for at, a := range of {
			if levels[at] == levels[k]-1 && holds(a, arm.Chan) {
				return link(a.Id, of[k].Id, arm.Chan)
			}
		}
	}
	panic("no link")
}

// readChain is P15.3, word by word, of one that has a chain.
func readChain(of []api.Agent, levels []int, k int) []api.Link {
	l := readLink(of, levels, k)
	if levels[k] == 1 {
		return chain(l)
	}
	waker := slices.IndexFunc(of, func(a api.Agent) bool { return a.Id == l.Waker })
	return append(readChain(of, levels, waker), l)
}

// hold holds both calls against the reading, and tells the levels.
func hold(t *testing.T, of []api.Agent) []int {
	t.Helper()
	if caps.Check(of) != api.OK {
		testNoStates(t, of)
		return nil
	}
	levels := readLevels(of)
	var dead []int
	for k, a := range of {
		switch levels[k] {
		case never:
			dead = append(dead, a.Id)
		case 0:
			testNoChain(t, of, a.Id)
		default:
			testChain(t, of, a.Id, readChain(of, levels, k)...)
		}
		for _, id := range ids(a.Id-1, a.Id+1) {
			if !slices.ContainsFunc(of, func(b api.Agent) bool { return b.Id == id }) {
				testNoChain(t, of, id)
			}
		}
	}
	testDead(t, of, dead...)
	return levels
}

// testFewest holds the levels against the shortest lists of links: P15.1, P15.4, P15.5.
func testFewest(t *testing.T, of []api.Agent, levels []int) {
	t.Helper()
	if want := fewest(of); !slices.Equal(levels, want) {
		t.Errorf("%v: levels %v, but so many links %v", of, levels, want)
	}
}

// some are the lists of some of these channels that have all those which arms need.
func some(channels []int, arms []api.Hand) [][]int {
	var out [][]int
	for bits := range 1 << len(channels) {
		var l []int
		for k, c := range channels {
			if bits>>k&1 == 1 {
				l = append(l, c)
			}
		}
		if !slices.ContainsFunc(arms, func(arm api.Hand) bool { return arm.Chan != 0 && !slices.Contains(l, arm.Chan) }) {
			out = append(out, l)
		}
	}
	return out
}

// sorts are agents of all kinds on these channels: awake, or waiting with at most so many arms, which may be on nil (receiving there); holding any of them.
func sorts(channels []int, arms int) []api.Agent {
	var out []api.Agent
	for _, l := range some(channels, nil) {
		out = append(out, awake(0, l...))
	}
	var grow func(l []api.Hand)
	grow = func(l []api.Hand) {
		for _, held := range some(channels, l) {
			out = append(out, waits(0, l, held...))
		}
		if len(l) < arms {
			for _, c := range channels {
				grow(append(slices.Clone(l), r(c)))
				grow(append(slices.Clone(l), s(c)))
			}
			grow(append(slices.Clone(l), r(0)))
		}
	}
	grow(nil)
	return out
}

// P15.1 to P15.5: all states of two agents with at most two arms each, on the world's two channels and one more.
func TestTwoAgents(t *testing.T) {
	all := sorts(ids(1, 2, 3), 2)
	for _, a := range all {
		testFewest(t, state(a), hold(t, state(a)))
		for _, b := range all {
			a.Id, b.Id = 0, 3
			of := state(a, b)
			testFewest(t, of, hold(t, of))
		}
	}
}

// P15.1 to P15.5: all states of three agents with at most one arm each, on two channels.
func TestThreeAgents(t *testing.T) {
	for _, channels := range [][]int{{1, 3}, {2, 3}, {3, 4}} {
		all := sorts(channels, 1)
		for _, a := range all {
			for _, b := range all {
				for _, c := range all {
					a.Id, b.Id, c.Id = 2, 4, 7
					of := state(a, b, c)
					testFewest(t, of, hold(t, of))
				}
			}
		}
	}
}

// P15.1 to P15.5: all states of four agents with at most one arm each, on two channels that are not the world's.
func TestFourAgents(t *testing.T) {
	all := sorts(ids(3, 4), 1)
	for _, a := range all {
		for _, b := range all {
			for _, c := range all {
				for _, d := range all {
					a.Id, b.Id, c.Id, d.Id = 0, 1, 5, 6
					of := state(a, b, c, d)
					testFewest(t, of, hold(t, of))
				}
			}
		}
	}
}

// maker makes up states.
type maker struct{ *rand.Rand }

func newMaker(seed uint64) maker { return maker{rand.New(rand.NewPCG(seed, 15))} }

// channel is one of so many, mostly not the world's; now and then one of the greatest.
func (m maker) channel(n int) int {
	switch m.IntN(30) {
	case 0:
		return 1 + m.IntN(2)
	case 1:
		return greatest - m.IntN(2)
	}
	return 3 + m.IntN(n)
}

// held are a few of so many channels, with others in the room behind them.
func (m maker) held(channels int) []int {
	out := make([]int, 0, 8)
	for range []int{0, 1, 2, 2, 2, 3, 3, 4}[m.IntN(8)] {
		out = append(out, m.channel(channels))
	}
	slices.Sort(out)
	out = slices.Compact(out)
	for k := len(out); k < cap(out); k++ {
		out[:cap(out)][k] = 1 + m.IntN(9)
	}
	return out
}

// arms are on what is held, mostly in one direction a channel, so that few of them fit, with others in the room behind them.
func (m maker) arms(held []int) []api.Hand {
	out := make([]api.Hand, []int{0, 1, 1, 1, 1, 1, 2, 2, 3, 4}[m.IntN(10)], 6)
	for k := range out {
		if len(held) > 0 && m.IntN(12) > 0 {
			out[k].Chan = held[m.IntN(len(held))]
		}
		out[k].Send = (out[k].Chan%2 == 1) != (m.IntN(12) == 0)
	}
	for k := len(out); k < cap(out); k++ {
		out[:cap(out)][k] = api.Hand{Chan: 1 + m.IntN(4), Send: k%2 == 0}
	}
	return out
}

// state is so many agents, with one more in the room behind them, which speak on so many channels.
func (m maker) state(agents, channels int) []api.Agent {
	id := m.IntN(3) - 1
	if m.IntN(10) == 0 {
		id = greatest - 4*agents - 4
	}
	var out []api.Agent
	for range agents + 1 {
		id += 1 + m.IntN(3)
		a := api.Agent{Id: id, Held: m.held(channels), Awake: m.IntN(8) == 0}
		if a.Awake {
			a.Arms = hands(s(1), r(2))[:0]
		} else {
			a.Arms = m.arms(a.Held)
		}
		out = append(out, a)
	}
	return out[:agents:len(out)]
}

// small is a state of few agents, so that all lists of links can be gone through.
func (m maker) small() []api.Agent { return m.state(m.IntN(9), 2+m.IntN(5)) }

// tally counts how often each level was met.
type tally map[int]int

func (n tally) add(levels []int) {
	for _, l := range levels {
		n[l]++
	}
}

// P15.1 to P15.5: made-up states of few agents.
func TestMadeUpFew(t *testing.T) {
	m, met := newMaker(1), tally{}
	for range 6000 {
		of := m.small()
		levels := hold(t, of)
		testFewest(t, of, levels)
		met.add(levels)
	}
	if met[0] < 2000 || met[1] < 2000 || met[2] < 500 || met[3] < 100 || met[never] < 5000 {
		t.Errorf("the levels that were met: %v", met)
	}
}

// P15.1 to P15.3: made-up states of many agents.
func TestMadeUpMany(t *testing.T) {
	m, met := newMaker(2), tally{}
	for range 600 {
		n := 20 + m.IntN(60)
		met.add(hold(t, m.state(n, n/2+m.IntN(n))))
	}
	if met[0] < 2000 || met[1] < 2000 || met[4] < 200 || met[6] < 20 || met[never] < 5000 {
		t.Errorf("the levels that were met: %v", met)
	}
}

// spoiled is a state in which one thing is another one.
func (m maker) spoiled() []api.Agent {
	of := m.state(1+m.IntN(6), 4)
	number := []int{-1, 0, 1, 2, 3, 5, 8, least, greatest}[m.IntN(9)]
	a := &of[m.IntN(len(of))]
	switch {
	case m.IntN(3) == 0 && len(a.Held) > 0:
		a.Held[m.IntN(len(a.Held))] = number
	case m.IntN(2) == 0 && len(a.Arms) > 0:
		a.Arms[m.IntN(len(a.Arms))].Chan = number
	case m.IntN(3) == 0:
		a.Awake = true
	default:
		a.Id = number
	}
	return of
}

// P15.1, P15.3: made-up lists of which many are no states.
func TestMadeUpLists(t *testing.T) {
	m, none := newMaker(3), 0
	for range 4000 {
		of := m.spoiled()
		hold(t, of)
		if _, e := detect.Dead(of); e != api.OK {
			none++
		}
	}
	if none < 1000 || none > 3500 {
		t.Errorf("%d are no states", none)
	}
}
