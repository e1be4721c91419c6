package detect_test

import (
	"slices"
	"testing"

	"squint/api"
	"squint/caps"
	"squint/detect"
)

// dead is Dead's answer, of a state.
func dead(t *testing.T, of []api.Agent) []int {
	t.Helper()
	out, e := detect.Dead(of)
	if e != api.OK {
		t.Fatalf("Dead(%v): %d", of, e)
	}
	return out
}

// middle is a state of a few agents, or of some more.
func (m maker) middle() []api.Agent {
	n := 2 + m.IntN(14)
	return m.state(n, n/2+m.IntN(n)+1)
}

// copied is a copy of a state without any room behind it.
func copied(of []api.Agent) []api.Agent {
	out := slices.Clone(of)
	for k, a := range out {
		out[k].Arms, out[k].Held = slices.Clone(a.Arms), slices.Clone(a.Held)
	}
	return out
}

// lengths tells how many links each agent's chain has: its level, and 0 if it has none.
func lengths(of []api.Agent) []int {
	var out []int
	for _, a := range of {
		l, _ := detect.Chain(of, a.Id)
		out = append(out, len(l))
	}
	return out
}

// P15.4: just the dead have no level; the order of an agent's arms does not matter to who is dead, nor to levels.
func TestOrderOfArms(t *testing.T) {
	m, other := newMaker(4), 0
	for range 3000 {
		of := m.middle()
		turned := copied(of)
		for _, a := range turned {
			m.Shuffle(len(a.Arms), func(i, j int) { a.Arms[i], a.Arms[j] = a.Arms[j], a.Arms[i] })
		}
		gone, far := dead(t, of), lengths(of)
		if got := dead(t, turned); !slices.Equal(got, gone) {
			t.Errorf("Dead(%v): %v, but %v of %v", of, gone, got, turned)
		}
		if got := lengths(turned); !slices.Equal(got, far) {
			t.Errorf("levels of %v: %v, but %v of %v", of, far, got, turned)
		}
		for k, a := range of {
			if has := a.Awake || far[k] > 0; has == slices.Contains(gone, a.Id) {
				t.Errorf("%d of %v: dead %v, level %d", a.Id, of, gone, far[k])
			}
			l, _ := detect.Chain(of, a.Id)
			if l2, _ := detect.Chain(turned, a.Id); !slices.Equal(l, l2) {
				other++
			}
		}
	}
	if other < 100 {
		t.Errorf("only %d chains are others", other)
	}
}

// P15.4: which arm stands first, and which Ids are smaller, is seen in chains alone.
func TestOrderByHand(t *testing.T) {
	of := func(arms ...api.Hand) []api.Agent {
		return state(waits(0, arms, 1, 3, 4), awake(1, 3), awake(2, 4), waits(3, hands(r(5), r(6)), 5, 6))
	}
	testAll(t, of(r(1), r(3), r(4)), chain(link(world, 0, 1)))
	testAll(t, of(r(3), r(4), r(1)), chain(link(1, 0, 3)))
	testAll(t, of(r(4), r(1), r(3)), chain(link(2, 0, 4)))
}

// P15.5: each link of a chain fits in the state that those ahead of it have made, and behind the last one the agent is awake.
func TestChainsWake(t *testing.T) {
	m, taken := newMaker(5), 0
	for range 3000 {
		of := m.middle()
		for k, a := range of {
			l, ok := detect.Chain(of, a.Id)
			now := of
			for _, one := range l {
				if now[k].Awake || !caps.Fits(now, one) {
					t.Fatalf("Chain(%v, %d): %v: %v does not fit %v", of, a.Id, l, one, now)
				}
				now, _ = caps.Take(now, one)
				taken++
			}
			if ok && !now[k].Awake {
				t.Errorf("Chain(%v, %d): %v does not wake it", of, a.Id, l)
			}
		}
	}
	if taken < 10000 {
		t.Errorf("%d links were taken", taken)
	}
}

// P15.5: no shorter list of links wakes who has a long chain, though some of its arms would do later, or others are woken on the way.
func TestNoShorter(t *testing.T) {
	of := state(
		waits(0, hands(r(8), r(7), r(6)), 6, 7, 8), waits(1, hands(r(1)), 1, 4), waits(2, hands(r(4)), 4, 5), waits(3, hands(s(5)), 5, 6, 8),
		waits(4, hands(r(6)), 6, 7), waits(5, hands(s(2)), 2, 9), waits(6, hands(r(9)), 9))
	testChain(t, of, 0, link(world, 1, 1), link(1, 2, 4), link(2, 3, 5), link(3, 0, 8))
	testFewest(t, of, ids(4, 1, 2, 3, 4, 1, 2))
	testFewest(t, of, lengths(of))
}

// P15.6: behind each link that fits the dead are the same; behind all of them who is not dead is awake.
func TestSound(t *testing.T) {
	m, taken := newMaker(6), 0
	for range 2000 {
		of := m.middle()
		gone := dead(t, of)
		for l := caps.Links(of); len(l) > 0; l = caps.Links(of) {
			for _, one := range l {
				behind, e := caps.Take(of, one)
				if got := dead(t, behind); e != api.OK || !slices.Equal(got, gone) {
					t.Fatalf("Dead(%v): %v, but behind %v %v, %d", of, gone, one, got, e)
				}
				taken++
			}
			of, _ = caps.Take(of, l[m.IntN(len(l))])
		}
		for _, a := range of {
			if a.Awake == slices.Contains(gone, a.Id) {
				t.Errorf("behind all links: %v, but %v are dead", of, gone)
			}
		}
	}
	if taken < 10000 {
		t.Errorf("%d links were taken", taken)
	}
}

// P15.7: the dead taken out, nobody of the others is dead, and their chains stay.
func TestGone(t *testing.T) {
	m, out, stay := newMaker(7), 0, 0
	for range 3000 {
		of := m.middle()
		gone := dead(t, of)
		left := slices.DeleteFunc(slices.Clone(of), func(a api.Agent) bool { return slices.Contains(gone, a.Id) })
		if got := dead(t, left); len(got) > 0 {
			t.Errorf("%v, without %v: %v", of, gone, got)
		}
		for _, a := range left {
			want, ok := detect.Chain(of, a.Id)
			if got, has := detect.Chain(left, a.Id); has != ok || !slices.Equal(got, want) {
				t.Errorf("Chain(%v, %d): %v, but without %v %v", of, a.Id, want, gone, got)
			}
			stay += len(want)
		}
		out += len(gone)
	}
	if out < 5000 || stay < 5000 {
		t.Errorf("%d dead, %d links", out, stay)
	}
}

// testNotWorse tests that whoever is dead in a state that has more was dead, or was not there.
func testNotWorse(t *testing.T, of, more []api.Agent) (fewer bool) {
	t.Helper()
	before, after := dead(t, of), dead(t, more)
	for _, id := range after {
		was := slices.ContainsFunc(of, func(a api.Agent) bool { return a.Id == id })
		if was && !slices.Contains(before, id) {
			t.Errorf("%d is not dead in %v, but in %v", id, of, more)
		}
	}
	return len(after) < len(before)
}

// P15.8: an agent awake instead of waiting, one more channel that somebody holds, one more agent.
func TestMore(t *testing.T) {
	m, better := newMaker(8), [3]int{}
	for range 3000 {
		of := m.middle()
		k := m.IntN(len(of))

		more := copied(of)
		more[k].Awake, more[k].Arms = true, nil
		if testNotWorse(t, of, more) {
			better[0]++
		}

		more = copied(of)
		more[k].Held = append(more[k].Held, m.channel(len(of)))
		slices.Sort(more[k].Held)
		more[k].Held = slices.Compact(more[k].Held)
		if testNotWorse(t, of, more) {
			better[1]++
		}

		one := m.state(1, len(of))[0]
		if at, taken := slices.BinarySearchFunc(of, one.Id, func(a api.Agent, id int) int { return a.Id - id }); !taken {
			if testNotWorse(t, of, slices.Insert(copied(of), at, one)) {
				better[2]++
			}
		}
	}
	if slices.Min(better[:]) < 100 {
		t.Errorf("so often it made something better: %v", better)
	}
}

// P15.8: more, by hand: what two had by arms that fit they still have.
func TestMoreByHand(t *testing.T) {
	of := state(waits(0, hands(r(3)), 3), waits(2, hands(s(3)), 3, 4), waits(4, hands(r(4)), 4), waits(6, hands(r(5)), 5))
	testDead(t, of, 6)
	testDead(t, state(awake(0, 3), of[1], of[2], of[3]), 6)
	testDead(t, state(of[0], awake(2, 3, 4), of[2], of[3]), 6)
	testDead(t, state(of[0], of[1], waits(4, hands(r(4)), 4, 5), of[3]))
	testDead(t, append(state(of...), awake(7)), 6)
	testDead(t, append(state(of...), awake(7, 5)))
	testDead(t, append(state(of...), waits(7, hands(s(5)), 5)))
	testDead(t, append(state(of...), waits(7, hands(r(5)), 5)), 6, 7)
}

// P15.9: rings of those that wait for each other, each with several arms, among others that go on, are dead.
func TestRingsAmongOthers(t *testing.T) {
	m := newMaker(9)
	for range 1000 {
		of := m.middle()
		if of[0].Id > 1000 {
			continue
		}
		gone := dead(t, of)
		n, first := 1+m.IntN(6), of[len(of)-1].Id+1
		for k := range n {
			own, other := 1000+k, 1000+(k+1)%n
			arms := slices.Repeat(hands(api.Hand{Chan: own, Send: m.IntN(2) == 0}), 1+m.IntN(3))
			if m.IntN(3) == 0 {
				arms = append(arms, r(own), s(own), r(0))
			}
			held := ids(3, min(own, other), max(own, other))
			of = append(of, waits(first+k, arms, slices.Compact(held)...))
			gone = append(gone, first+k)
		}
		testDead(t, of, gone...)
	}
}
