package explore_test

import (
	"fmt"
	"math/rand/v2"
	"slices"
	"testing"

	"squint/api"
	"squint/explore"
)

// key is a list as numbers, whose order, number by number, is the order of lists: a 1 stands ahead of each event and of each number of a List, a 0 where there is none.
func key(l []api.Event) (out []int) {
	for _, e := range l {
		out = append(out, 1, e.Kind, e.P, e.I, e.Q, e.J, e.Chan, e.Num)
		for _, n := range e.List {
			out = append(out, 1, n)
		}
		out = append(out, 0)
	}
	return append(out, 0)
}

// rising tells whether each list stands ahead of the next one, and so none there twice.
func rising(lists [][]api.Event) bool {
	for k := 1; k < len(lists); k++ {
		if slices.Compare(key(lists[k-1]), key(lists[k])) >= 0 {
			return false
		}
	}
	return true
}

// P20.2: programs whose runs are unlike first in each field of an event.
func TestOrder(t *testing.T) {
	// The kind: a birth, a meeting, an end, a trap, a limit that is passed.
	kinds := "val c = make chan of int; val g = prog() { }; begin prog() { prog() { }(); val x = fill(1000, 0); }(); begin prog() { prog() { }(); begin g(); }(); begin prog() { prog() { }(); val x = 1 / 0; }(); begin prog() { c <-= 1; }(); <-c;"
	ahead := "born 0 1, born 0 2, born 0 3, born 0 4"
	tells(t, kinds, hundred(), 3, ahead, ahead+", born 2 5, exit 2", ahead+", meet 4 0 0 0 3", ahead+", trap 3 divide", ahead+", spent 1 cells")
	// P, by numbers, not by letters.
	var exits []string
	for p := 1; p <= 12; p++ {
		exits = append(exits, fmt.Sprintf("%s, exit 0, exit %d", births(12), p))
	}
	tells(t, "val f = prog() { }; begin f(); begin f(); begin f(); begin f(); begin f(); begin f(); begin f(); begin f(); begin f(); begin f(); begin f(); begin f();", hundred(), 2, exits...)
	// I; J; both: I counts first.
	tells(t, "val c = make chan of int; begin prog() { <-c; }(); "+selects(3, 0), hundred(), 3, "born 0 1, meet 0 0 1 0 3", "born 0 1, meet 0 1 1 0 3", "born 0 1, meet 0 2 1 0 3")
	tells(t, "val c = make chan of int; begin prog() { c <-= 1; }(); "+selects(0, 3), hundred(), 3, "born 0 1, meet 1 0 0 0 3", "born 0 1, meet 1 0 0 1 3", "born 0 1, meet 1 0 0 2 3")
	tells(t, "val c = make chan of int; begin prog() { "+selects(2, 0)+"}(); "+selects(0, 2), hundred(), 3,
		"born 0 1, meet 1 0 0 0 3", "born 0 1, meet 1 0 0 1 3", "born 0 1, meet 1 1 0 0 3", "born 0 1, meet 1 1 0 1 3")
	// Q counts ahead of J, and behind I: of 2 and 3 that receive with two arms.
	receives := "val c = make chan of int; begin prog() { }(); val f = prog() { " + selects(0, 2) + "}; begin f(); begin f(); " + selects(2, 0)
	ahead = "born 0 1, born 0 2, born 0 3, "
	var meets []string
	for i := range 2 {
		for q := 2; q <= 3; q++ {
			for j := range 2 {
				meets = append(meets, fmt.Sprintf("%smeet 0 %d %d %d 3", ahead, i, q, j))
			}
		}
	}
	got, e := all(t, receives, hundred(), 4, 4)
	got = slices.DeleteFunc(got, func(s string) bool { return len(s) != len(meets[0]) || s[len(ahead):len(ahead)+4] != "meet" })
	if e != api.OK || !slices.Equal(got, meets) {
		t.Errorf("%d, %q, not %q", e, got, meets)
	}
}

// P20.2: unlike in the channel first: one of the same processes and arms, that was made early or late.
func TestOrderChannel(t *testing.T) {
	src := "begin prog() { val c = make chan of int; while true { } }(); prog() { }(); val c = make chan of int; begin prog() { c <-= 1; }(); <-c;"
	tells(t, src, hundred(), 4, "born 0 1", "born 0 1, born 0 2", "born 0 1, born 0 2, meet 2 0 0 0 3")
	tells(t, src, hundred(), 5, "born 0 1", "born 0 1, born 0 2",
		"born 0 1, born 0 2, meet 2 0 0 0 3", "born 0 1, born 0 2, meet 2 0 0 0 3, exit 0", "born 0 1, born 0 2, meet 2 0 0 0 3, exit 2",
		"born 0 1, born 0 2, meet 2 0 0 0 4")
}

// P20.2: unlike in the number first: ticks that the other one uses are not there, where the first one would come to its cells.
func TestOrderNumber(t *testing.T) {
	src := "val f = prog() { }; begin prog() { while true { } }(); f(); f(); val x = fill(1000, 0);"
	tells(t, src, turned(hundred(), 3, 2), 3, "born 0 1, spent 0 ticks", "born 0 1, spent 0 cells", "born 0 1, spent 1 ticks")
}

// P20.2: a list that begins another one stands ahead of it.
func TestOrderBeginning(t *testing.T) {
	src := "begin prog() { }(); while true { }"
	tells(t, src, hundred(), 3, "born 0 1", "born 0 1, exit 1")
	src = "begin prog() { prog() { }(); }(); begin prog() { prog() { }(); }(); while true { }"
	tells(t, src, hundred(), 5, "born 0 1, born 0 2", "born 0 1, born 0 2, exit 1", "born 0 1, born 0 2, exit 1, exit 2", "born 0 1, born 0 2, exit 2", "born 0 1, born 0 2, exit 2, exit 1")
}

// field is a field of an event, by its number.
func field(e *api.Event, k int) *int {
	return []*int{&e.Kind, &e.P, &e.I, &e.Q, &e.J, &e.Chan, &e.Num}[k]
}

// P20.2: each field ahead of those behind it, and List, number by number, behind them all.
func TestOrderOfEvents(t *testing.T) {
	odd := []int{least, -1, 0, 1, 2, 10, greatest}
	var up [][]api.Event
	for k := 6; k >= 0; k-- {
		for _, n := range odd {
			if n == 1 {
				continue
			}
			e := api.Event{Kind: 1, P: 1, I: 1, Q: 1, J: 1, Chan: 1, Num: 1}
			*field(&e, k) = n
			for behind := k + 1; behind < 7; behind++ {
				// What stands behind it is the other way round, and does not count.
				*field(&e, behind) = -n - 1
			}
			up = append(up, []api.Event{e})
		}
	}
	for _, list := range [][]int{nil, {least}, {-1}, {-1, -1}, {0}, {0, least}, {0, 0}, {0, 0, 0}, {0, 1}, {1}, {2}, {10}, {greatest}, {greatest, 0}} {
		up = append(up, []api.Event{{Kind: 1, P: 1, I: 1, Q: 1, J: 1, Chan: 1, Num: 1, List: list}})
	}
	want := slices.Clone(up)
	slices.SortFunc(want, func(a, b []api.Event) int { return slices.Compare(key(a), key(b)) })
	for turn := range 40 {
		r := rand.New(rand.NewPCG(uint64(turn), 20))
		r.Shuffle(len(up), func(a, b int) { up[a], up[b] = up[b], up[a] })
		if got := explore.Unlike(inLegs(r, up)); fmt.Sprint(got) != fmt.Sprint(want) {
			t.Fatalf("%v, not\n%v", got, want)
		}
	}
}

// inLegs are lists as the legs of runs, cut anywhere, with legs that tell nothing.
func inLegs(r *rand.Rand, lists [][]api.Event) (out [][][]api.Event) {
	for _, l := range lists {
		legs := [][]api.Event{}
		for r.IntN(3) == 0 {
			legs = append(legs, nil)
		}
		for len(l) > 0 {
			n := r.IntN(len(l) + 1)
			legs = append(legs, l[:n])
			l = l[n:]
		}
		for r.IntN(3) == 0 {
			legs = append(legs, []api.Event{})
		}
		out = append(out, legs)
	}
	return out
}

// P20.2: made lists, many of which are alike or begin others: each once, in their order.
func TestOrderOfLists(t *testing.T) {
	r := rand.New(rand.NewPCG(1, 20))
	for range 3000 {
		kind := r.IntN(3) + 1
		one := func() (e api.Event) {
			for k := range 7 {
				if r.IntN(4) == 0 {
					*field(&e, k) = r.IntN(kind) - 1
				}
			}
			for r.IntN(4) == 0 {
				e.List = append(e.List, r.IntN(kind)-1)
			}
			return e
		}
		var lists [][]api.Event
		for range r.IntN(40) {
			var l []api.Event
			if len(lists) > 0 && r.IntN(3) > 0 {
				from := lists[r.IntN(len(lists))]
				l = slices.Clone(from[:r.IntN(len(from)+1)])
			}
			for r.IntN(3) == 0 {
				l = append(l, one())
			}
			lists = append(lists, l)
		}
		want := slices.Clone(lists)
		slices.SortFunc(want, func(a, b []api.Event) int { return slices.Compare(key(a), key(b)) })
		want = slices.CompactFunc(want, func(a, b []api.Event) bool { return slices.Equal(key(a), key(b)) })
		if got := explore.Unlike(inLegs(r, lists)); fmt.Sprint(got) != fmt.Sprint(want) {
			t.Fatalf("%v:\n%v, not\n%v", lists, got, want)
		}
	}
}
