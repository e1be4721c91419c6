package detect_test

import (
	"reflect"
	"slices"
	"testing"

	"squint/api"
	"squint/detect"
)

// whole is a copy of a list of agents, with what stands in the room behind its ends.
func whole(of []api.Agent) []api.Agent {
	out := slices.Clone(of[:cap(of)])
	for k, a := range out {
		out[k].Arms = slices.Clone(a.Arms[:cap(a.Arms)])
		out[k].Held = slices.Clone(a.Held[:cap(a.Held)])
	}
	return out
}

// fill writes one thing all over a list and the room behind it.
func fill[T any](list []T, one T) {
	for k := range list[:cap(list)] {
		list[:cap(list)][k] = one
	}
}

// spoil writes over all that a state has, and over the room behind it.
func spoil(of []api.Agent) {
	for _, a := range of {
		fill(a.Held, 4711)
		fill(a.Arms, s(4711))
	}
	fill(of, waits(4711, hands(s(4711))))
}

// R4: what is handed in stays as it is, and the room behind it.
func TestHandedIn(t *testing.T) {
	m := newMaker(10)
	for range 2000 {
		for _, of := range [][]api.Agent{m.middle(), m.spoiled()} {
			was := whole(of)
			detect.Dead(of)
			for _, a := range of {
				detect.Chain(of, a.Id)
			}
			detect.Chain(of, world)
			if !reflect.DeepEqual(was, whole(of)) {
				t.Fatalf("%v has become %v", was, whole(of))
			}
		}
	}
}

// answers are the answers of both calls, of all agents.
func answers(of []api.Agent) ([]int, [][]api.Link) {
	gone, _ := detect.Dead(of)
	var chains [][]api.Link
	for _, a := range of {
		l, _ := detect.Chain(of, a.Id)
		chains = append(chains, l)
	}
	return gone, chains
}

// R4, R5: what was answered is the caller's own: no other answer, earlier or later, shows what is written there, nor does it show what becomes of what was handed in.
func TestAnswered(t *testing.T) {
	m := newMaker(11)
	for range 2000 {
		of := m.middle()
		was := whole(of)
		early, chains := answers(of)
		kept, keptChains := slices.Clone(early), slices.Clone(chains)
		for k, l := range chains {
			keptChains[k] = slices.Clone(l)
		}
		for range 2 {
			others, otherChains := answers(of)
			if !slices.Equal(others, kept) || !slices.EqualFunc(otherChains, keptChains, slices.Equal) {
				t.Fatalf("%v: now %v and %v, then %v and %v", of, kept, keptChains, others, otherChains)
			}
			fill(others, 4711)
			for k, l := range otherChains {
				fill(l, link(4711, k, 4711))
			}
			for k, l := range otherChains {
				if slices.ContainsFunc(l, func(one api.Link) bool { return one.Woken != k }) {
					t.Fatalf("%v: chains share memory", of)
				}
			}
		}
		if !reflect.DeepEqual(was, whole(of)) {
			t.Fatalf("what is written to answers shows in what was handed in: %v, not %v", whole(of), was)
		}
		spoil(of)
		if !slices.Equal(early, kept) || !slices.EqualFunc(chains, keptChains, slices.Equal) {
			t.Fatalf("%v and %v have become %v and %v", kept, keptChains, early, chains)
		}
	}
}

// R5: the same state has the same answers each time, also where many would do, in whatever order maps are gone through.
func TestOneAnswer(t *testing.T) {
	of := state()
	for id := range 40 {
		of = append(of, awake(id, 10, 11, 12, 13))
	}
	for id := 40; id < 80; id++ {
		of = append(of, waits(id, hands(r(10+id%4), r(10), r(11)), 10, 11, 12, 13, 20, 21, 22, 23))
	}
	for id := 80; id < 120; id++ {
		of = append(of, waits(id, hands(r(20+id%4), r(20), r(21)), 20, 21, 22, 23, 30, 31))
	}
	of = append(of, waits(120, hands(r(31), r(30)), 30, 31))
	for range 200 {
		testChain(t, of, 120, link(0, 40, 10), link(40, 80, 20), link(80, 120, 31))
		testChain(t, of, 83, link(0, 40, 10), link(40, 83, 23))
	}
	testDead(t, of)
}

// R3: an empty list and none are the same, handed in.
func TestNothing(t *testing.T) {
	for _, nothing := range []api.Agent{{}, {Arms: []api.Hand{}, Held: []int{}}, {Arms: hands(r(1))[:0], Held: ids(1)[:0]}} {
		testDead(t, state(nothing), 0)
		nothing.Awake = true
		testDead(t, state(nothing))
		testNoChain(t, state(nothing), 0)
	}
}
