package caps_test

import (
	"math/rand/v2"
	"slices"
	"testing"

	"squint/api"
	"squint/caps"
)

// readCheck is P14.1, word by word.
func readCheck(of []api.Agent) bool {
	if len(of) > 4096 {
		return false
	}
	for k, a := range of {
		if a.Id < 0 || k > 0 && a.Id <= of[k-1].Id || a.Awake && len(a.Arms) > 0 {
			return false
		}
		for at, c := range a.Held {
			if c < 1 || at > 0 && c <= a.Held[at-1] {
				return false
			}
		}
		for _, arm := range a.Arms {
			if arm.Chan != 0 && !slices.Contains(a.Held, arm.Chan) {
				return false
			}
		}
	}
	return true
}

// readFits is what the chapter says of a link, case by case, of a state.
func readFits(of []api.Agent, l api.Link) bool {
	for _, woken := range of {
		sends, receives := slices.Contains(woken.Arms, s(l.Chan)), slices.Contains(woken.Arms, r(l.Chan))
		if woken.Id != l.Woken || woken.Awake || l.Chan < 1 || !sends && !receives {
			continue
		}
		if l.Waker == -1 {
			return l.Chan == 1 && receives || l.Chan == 2 && sends
		}
		for _, waker := range of {
			if waker.Id != l.Waker || waker.Id == woken.Id {
				continue
			}
			if waker.Awake {
				return slices.Contains(waker.Held, l.Chan)
			}
			return receives && slices.Contains(waker.Arms, s(l.Chan)) || sends && slices.Contains(waker.Arms, r(l.Chan))
		}
	}
	return false
}

// asked are the numbers of a state by which links are made to try it: Ids and channels, rising.
func asked(of []api.Agent) (ids, channels []int) {
	ids, channels = []int{least, -2, -1, greatest}, []int{least, -1, 0, 1, 2, greatest}
	for _, a := range of {
		ids = append(ids, a.Id)
		channels = append(channels, a.Held...)
		for _, arm := range a.Arms {
			channels = append(channels, arm.Chan)
		}
	}
	slices.Sort(ids)
	slices.Sort(channels)
	return slices.Compact(ids), slices.Compact(channels)
}

// readLinks is P14.3: every link that may be, in the order that is asked for, and whether it fits.
func readLinks(of []api.Agent, each func(l api.Link, fits bool)) {
	ids, channels := asked(of)
	for _, woken := range ids {
		for _, channel := range channels {
			for _, waker := range ids {
				l := link(waker, woken, channel)
				each(l, readFits(of, l))
			}
		}
	}
}

// readTake is P14.4, of a link that fits.
func readTake(of []api.Agent, l api.Link) []api.Agent {
	out := slices.Clone(of)
	for k, a := range out {
		if a.Id == l.Woken || a.Id == l.Waker {
			out[k] = awake(a.Id, a.Held...)
		}
	}
	return out
}

// hold holds the calls against the reading, and tells how many links there are.
func hold(t *testing.T, of []api.Agent) int {
	t.Helper()
	if !readCheck(of) {
		testNoStates(t, of)
		return 0
	}
	var want []api.Link
	readLinks(of, func(l api.Link, fits bool) {
		var behind []api.Agent
		code := api.ErrCapsLink
		if fits {
			want, behind, code = append(want, l), readTake(of, l), api.OK
		}
		testTake(t, of, l, behind, code)
	})
	testLinks(t, of, want...)
	return len(want)
}

// needed are the channels that arms are on, rising.
func needed(arms []api.Hand) []int {
	var out []int
	for _, arm := range arms {
		if arm.Chan > 0 {
			out = append(out, arm.Chan)
		}
	}
	slices.Sort(out)
	return slices.Compact(out)
}

// sorts are agents of all kinds, on the channels 0 to 3: awake, holding any of them; waiting, with at most so many arms.
func sorts(arms int) []api.Agent {
	var out []api.Agent
	for bits := range 8 {
		var l []int
		for k := range 3 {
			if bits>>k&1 == 1 {
				l = append(l, k+1)
			}
		}
		out = append(out, awake(0, l...))
	}
	var grow func(l []api.Hand, left int)
	grow = func(l []api.Hand, left int) {
		out = append(out, waits(0, l, needed(l)...))
		for channel := range 4 {
			for _, arm := range hands(s(channel), r(channel)) {
				if left > 0 {
					grow(append(slices.Clone(l), arm), left-1)
				}
			}
		}
	}
	grow(nil, arms)
	return out
}

// P14.1 to P14.4: all states of two agents with at most two arms each.
func TestTwoAgents(t *testing.T) {
	all := sorts(2)
	if len(all) != 8+1+8+64 {
		t.Fatalf("%d agents", len(all))
	}
	for _, a := range all {
		hold(t, state(a))
		for _, b := range all {
			b.Id = 3
			hold(t, state(a, b))
		}
	}
}

// P14.1 to P14.4: all states of three agents with at most one arm each.
func TestThreeAgents(t *testing.T) {
	all := sorts(1)
	for _, a := range all {
		for _, b := range all {
			for _, c := range all {
				a.Id, b.Id, c.Id = 2, 4, 7
				hold(t, state(a, b, c))
			}
		}
	}
}

// maker makes up states.
type maker struct{ *rand.Rand }

func newMaker(seed uint64) maker { return maker{rand.New(rand.NewPCG(seed, 14))} }

// held has room behind it, with channels in it that are not held.
func (m maker) held() []int {
	out := make([]int, 0, 16)
	for c := range 7 {
		if c > 0 && m.IntN(2) == 0 {
			out = append(out, c)
		}
	}
	if m.IntN(8) == 0 {
		out = append(out, greatest-1-m.IntN(2))
	}
	if m.IntN(8) == 0 {
		out = append(out, greatest)
	}
	for k := len(out); k < cap(out); k++ {
		out[:cap(out)][k] = 1 + m.IntN(9)
	}
	return out
}

// arms has room behind it, with arms in it that are none.
func (m maker) arms(held []int) []api.Hand {
	out := make([]api.Hand, m.IntN(6), 8)
	for k := range out {
		c := 0
		if len(held) > 0 && m.IntN(6) > 0 {
			c = held[m.IntN(len(held))]
		}
		out[k] = api.Hand{Chan: c, Send: m.IntN(2) == 0}
	}
	for k := len(out); k < cap(out); k++ {
		out[:cap(out)][k] = api.Hand{Chan: 1 + m.IntN(4), Send: k%2 == 0}
	}
	return out
}

func (m maker) agent(id int) api.Agent {
	out := api.Agent{Id: id, Held: m.held(), Awake: m.IntN(3) == 0}
	if out.Awake {
		out.Arms = hands(s(1), r(2))[:0]
	} else {
		out.Arms = m.arms(out.Held)
	}
	return out
}

// state has room behind its end, with an agent in it that is none of it.
func (m maker) state() []api.Agent {
	id := m.IntN(3) - 1
	if m.IntN(10) == 0 {
		id = greatest - 40
	}
	var out []api.Agent
	for range m.IntN(9) + 1 {
		id += 1 + m.IntN(3)
		out = append(out, m.agent(id))
	}
	return out[: len(out)-1 : len(out)]
}

// P14.1 to P14.4: made-up states.
func TestMadeUpStates(t *testing.T) {
	m := newMaker(1)
	some := 0
	for range 1500 {
		some += hold(t, m.state())
	}
	if some < 5000 {
		t.Errorf("%d links in all", some)
	}
}

// spoiled is a state in which one thing is another one.
func (m maker) spoiled() []api.Agent {
	of := m.state()
	if len(of) == 0 {
		return of
	}
	number := []int{-1, 0, 1, 2, 3, 5, 8, least, greatest}[m.IntN(9)]
	a := &of[m.IntN(len(of))]
	switch {
	case m.IntN(3) == 0 && len(a.Held) > 0:
		a.Held[m.IntN(len(a.Held))] = number
	case m.IntN(2) == 0 && len(a.Arms) > 0:
		a.Arms[m.IntN(len(a.Arms))].Chan = number
	case m.IntN(3) == 0:
		a.Awake = true
	default:
		a.Id = number
	}
	return of
}

// P14.1 to P14.4: made-up lists of which many are no states.
func TestMadeUpLists(t *testing.T) {
	m := newMaker(2)
	none := 0
	for range 4000 {
		of := m.spoiled()
		hold(t, of)
		if !readCheck(of) {
			none++
		}
	}
	if none < 1000 || none > 3000 {
		t.Errorf("%d are no states", none)
	}
}

// P14.5: Take's answer is a state, with the same Ids and Held; whoever was awake is awake.
func TestStaysState(t *testing.T) {
	m := newMaker(3)
	for range 1000 {
		for of := m.state(); ; {
			l := caps.Links(of)
			if len(l) == 0 {
				break
			}
			one := l[m.IntN(len(l))]
			after, e := caps.Take(of, one)
			if e != api.OK || caps.Check(after) != api.OK || len(after) != len(of) {
				t.Fatalf("Take(%v, %v): %v, %d", of, one, after, e)
			}
			for k, a := range after {
				woken := a.Id == one.Woken || a.Id == one.Waker
				if a.Id != of[k].Id || !slices.Equal(a.Held, of[k].Held) || a.Awake != (of[k].Awake || woken) {
					t.Fatalf("Take(%v, %v): %v", of, one, after)
				}
			}
			of = after
		}
	}
}

// P14.6: what can be woken once can be woken later: a link stays, unless its Woken is awake then.
func TestNothingIsLost(t *testing.T) {
	m := newMaker(4)
	stay := 0
	for range 1000 {
		of := m.state()
		all := caps.Links(of)
		for _, l := range all {
			after, e := caps.Take(of, l)
			if e != api.OK {
				t.Fatalf("Take(%v, %v): %d", of, l, e)
			}
			for _, other := range all {
				wakes := other.Woken == l.Woken || other.Woken == l.Waker
				if got := caps.Fits(after, other); got == wakes {
					t.Fatalf("%v, behind %v: Fits(%v): %v", of, l, other, got)
				}
				if !wakes {
					stay++
				}
			}
		}
	}
	if stay < 20000 {
		t.Errorf("%d links stay", stay)
	}
}

// stuck is a state of which nobody is awake, no two arms fit, and none is the world's: on each channel all arms are alike.
func (m maker) stuck() []api.Agent {
	of := m.state()
	for k, a := range of {
		if a.Awake {
			of[k].Awake, of[k].Arms = false, m.arms(a.Held)
		}
		for at, arm := range of[k].Arms {
			of[k].Arms[at].Send = arm.Chan%2 == 1
		}
	}
	return of
}

// P14.7: then there is no link; there may be, once the first one's arms are turned round, or it is awake.
func TestStuck(t *testing.T) {
	m := newMaker(5)
	for range 1000 {
		of := m.stuck()
		testLinks(t, of)
		if len(of) == 0 {
			continue
		}
		for k := range of[0].Arms {
			of[0].Arms[k].Send = !of[0].Arms[k].Send
		}
		hold(t, of)
		of[0].Awake, of[0].Arms = true, nil
		hold(t, of)
	}
}
