package caps_test

import (
	"reflect"
	"slices"
	"testing"

	"squint/api"
	"squint/caps"
)

// whole is a copy of a list of agents, with what stands in the room behind its ends.
func whole(of []api.Agent) []api.Agent {
	out := slices.Clone(of[:cap(of)])
	for k, a := range out {
		out[k].Arms = slices.Clone(a.Arms[:cap(a.Arms)])
		out[k].Held = slices.Clone(a.Held[:cap(a.Held)])
	}
	return out
}

// R4: what is handed in stays as it is, and the room behind it.
func TestHandedIn(t *testing.T) {
	m := newMaker(6)
	for range 1500 {
		for _, of := range [][]api.Agent{m.state(), m.spoiled()} {
			was := whole(of)
			caps.Check(of)
			for _, l := range append(caps.Links(of), link(0, 1, 1), link(world, 0, 1)) {
				caps.Fits(of, l)
				caps.Take(of, l)
			}
			if !reflect.DeepEqual(was, whole(of)) {
				t.Fatalf("%v has become %v", was, whole(of))
			}
		}
	}
}

// fill writes one thing all over a list and the room behind it.
func fill[T any](list []T, one T) {
	for k := range list[:cap(list)] {
		list[:cap(list)][k] = one
	}
}

// filled tells whether a list and the room behind it are that thing all over.
func filled[T comparable](list []T, one T) bool {
	return !slices.ContainsFunc(list[:cap(list)], func(x T) bool { return x != one })
}

// spoil writes over all that a state has, and over the room behind it; and tells whether two of its lists showed that in each other.
func spoil(of []api.Agent) bool {
	all := slices.Clone(of)
	for k, a := range all {
		fill(a.Held, 1000+k)
		fill(a.Arms, s(1000+k))
	}
	shared := false
	for k, a := range all {
		shared = shared || !filled(a.Held, 1000+k) || !filled(a.Arms, s(1000+k))
	}
	fill(of, waits(4711, hands(s(4711))))
	return shared
}

// R4, R5: what was answered is the caller's own: no other answer, earlier or later, shows what is written there, nor does it show what becomes of what was handed in.
func TestAnswered(t *testing.T) {
	m := newMaker(7)
	taken := 0
	for range 1500 {
		of := m.state()
		var all []api.Link
		readLinks(of, func(l api.Link, fits bool) {
			if fits {
				all = append(all, l)
			}
		})
		early, was := caps.Links(of), whole(of)
		for range 2 {
			fill(caps.Links(of), link(4711, 4711, 4711))
		}
		testLinks(t, of, all...)
		for _, l := range all {
			first, _ := caps.Take(of, l)
			second, _ := caps.Take(of, l)
			if spoil(second) {
				t.Fatalf("Take(%v, %v): lists share memory", of, l)
			}
			testTake(t, of, l, readTake(of, l), api.OK)
			if !reflect.DeepEqual(was, whole(of)) {
				t.Fatalf("Take(%v, %v): what is written there shows in what was handed in: %v", was, l, whole(of))
			}
			other := cut(of)
			third, _ := caps.Take(other, l)
			spoil(other)
			for _, got := range [][]api.Agent{first, third} {
				if !same(got, readTake(of, l)) {
					t.Fatalf("Take(%v, %v) has become %v", of, l, got)
				}
			}
			taken++
		}
		spoil(of)
		if !slices.Equal(early, all) {
			t.Fatalf("%v has become %v", all, early)
		}
	}
	if taken < 5000 {
		t.Errorf("%d links were taken", taken)
	}
}

// cut is a copy of a state without any room behind it.
func cut(of []api.Agent) []api.Agent {
	out := slices.Clone(of)
	for k, a := range out {
		out[k].Arms, out[k].Held = slices.Clone(a.Arms), slices.Clone(a.Held)
	}
	return out
}

// upTo are the channels 1 to n.
func upTo(n int) []int {
	out := make([]int, n)
	for k := range out {
		out[k] = k + 1
	}
	return out
}

// Very many arms that are alike, very many channels, and very many that wait the same way, end soon.
func TestMany(t *testing.T) {
	const n = 300000
	both := slices.Concat(slices.Repeat(hands(s(5)), n), slices.Repeat(hands(r(5)), n))
	testLinks(t, state(waits(0, both, 5)))
	testLinks(t, state(waits(0, both, 5), waits(1, both, 5), awake(2, 5)), link(1, 0, 5), link(2, 0, 5), link(0, 1, 5), link(2, 1, 5))
	testLinks(t, state(awake(0, upTo(n)...), waits(1, hands(s(n-1), r(0)), upTo(n)...)), link(0, 1, n-1))
	testTake(t, state(waits(0, both, 5), awake(1, upTo(n)...)), link(1, 0, 5), state(awake(0, 5), awake(1, upTo(n)...)), api.OK)

	channels := upTo(203)[3:]
	var arms []api.Hand
	for _, c := range channels {
		arms = append(arms, r(c))
	}
	var of []api.Agent
	for id := range api.MaxAgents - 1 {
		of = append(of, waits(id, arms, channels...))
	}
	testLinks(t, of)
	last := api.MaxAgents - 1
	of = append(of, waits(last, hands(s(7)), 7))
	var want []api.Link
	for id := range last {
		want = append(want, link(last, id, 7))
	}
	for id := range last {
		want = append(want, link(id, last, 7))
	}
	if got := caps.Links(of); !slices.Equal(got, want) {
		t.Errorf("%d links", len(got))
	}
}
