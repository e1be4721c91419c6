package explore_test

import (
	"slices"
	"testing"

	"squint/api"
	"squint/explore"
	"squint/host"
)

func explored(src string, l api.Limits, depth, workers int) ([][]api.Event, api.Errno) {
	return explore.All([]byte(src), l, depth, workers)
}

// P20.5: the lists of each depth against those of the depth below; where there are too many runs, there are at each greater depth.
func TestDeeper(t *testing.T) {
	m := newMaker(5)
	longer := 0
	for range 400 {
		src, l := m.program(m.IntN(6)), m.limits()
		below, e := explored(src, l, 0, 1+m.IntN(16))
		if e != api.OK || len(below) != 1 || len(below[0]) != 0 {
			t.Fatalf("%s, 0 deep: %v, %d", src, below, e)
		}
		many := false
		for depth := 1; depth <= 5; depth++ {
			lists, e := explored(src, l, depth, 1+m.IntN(16))
			if many && e != api.ErrExploreMany || e != api.OK && e != api.ErrExploreMany {
				t.Fatalf("%s, %d deep: %d", src, depth, e)
			}
			if many = e != api.OK; many {
				continue
			}
			for _, l := range lists {
				if !slices.ContainsFunc(below, func(b []api.Event) bool { return starts(l, b) }) {
					t.Fatalf("%s, %d deep: %v begins with none of %v", src, depth, l, below)
				}
			}
			for _, b := range below {
				if !slices.ContainsFunc(lists, func(l []api.Event) bool { return starts(l, b) }) {
					t.Fatalf("%s, %d deep: none of %v begins with %v", src, depth, lists, b)
				}
			}
			longer += len(lists) - len(below)
			below = lists
		}
	}
	if longer < 1000 {
		t.Errorf("there are only %d lists more", longer)
	}
}

// P20.6: a program that begins no process and waits for nobody has one run: that of its first process.
func TestOneRun(t *testing.T) {
	m := newMaker(6)
	ends := map[int]int{}
	for range 600 {
		src, l := m.plain(), m.limits()
		for depth := range 6 {
			lists, e := explored(src, l, depth, 1+m.IntN(16))
			if e != api.OK || len(lists) != 1 {
				t.Fatalf("%s, %d deep: %d, %d lists", src, depth, e, len(lists))
			}
			r, _ := host.Run([]byte(src), api.Script{Limits: l, Picks: slices.Repeat([]api.Pick{{Kind: api.PickStep}}, depth)})
			want := slices.DeleteFunc(r.Events, func(e api.Event) bool { return e.Kind == api.EvIdle })
			if !alike(lists, [][]api.Event{want}) {
				t.Fatalf("%s, %d deep: %v, not %v", src, depth, lists, want)
			}
			for _, e := range want {
				ends[e.Kind]++
			}
		}
	}
	if ends[api.EvExit] < 100 || ends[api.EvTrap] < 100 || ends[api.EvSpent] < 100 {
		t.Errorf("too few ends of a kind: %v", ends)
	}
	for depth := range 6 {
		tells(t, "while true { }", hundred(), depth, "")
	}
}

// parts are the processes that take part in an event.
func parts(e api.Event) []int {
	if e.Kind == api.EvBorn || e.Kind == api.EvMeet {
		return []int{e.P, e.Q}
	}
	return []int{e.P}
}

// holdParts: nobody meets itself, nobody takes part in anything behind its end, nor ahead of its birth; nothing is told that no step tells, nor anything behind a limit that was passed.
func holdParts(t *testing.T, src string, l []api.Event) {
	t.Helper()
	live := map[int]bool{0: true}
	for k, e := range l {
		if e.Kind == api.EvBorn {
			if live[e.Q] || e.Q == e.P {
				t.Fatalf("%s: %v: born twice: %v", src, l, e)
			}
			live[e.Q] = true
		}
		for _, id := range parts(e) {
			if !live[id] {
				t.Fatalf("%s: %v: %d does not live at %v", src, l, id, e)
			}
		}
		switch e.Kind {
		case api.EvMeet:
			if e.P == e.Q {
				t.Fatalf("%s: %v: %d meets itself", src, l, e.P)
			}
		case api.EvExit, api.EvTrap:
			live[e.P] = false
		case api.EvSpent:
			if k != len(l)-1 {
				t.Fatalf("%s: %v: events behind the last one", src, l)
			}
		case api.EvBorn:
		default:
			t.Fatalf("%s: %v: no step tells %v", src, l, e)
		}
	}
}

// P20.7, P20.2: of all lists of made programs; and that they stand in their order, none twice.
func TestParts(t *testing.T) {
	m := newMaker(7)
	seen := map[int]int{}
	for range 500 {
		src := m.program(m.IntN(6))
		lists, e := explored(src, m.limits(), 5, 1+m.IntN(16))
		if e == api.ErrExploreMany {
			lists, e = explored(src, m.limits(), 3, 1+m.IntN(16))
		}
		if e != api.OK && e != api.ErrExploreMany {
			t.Fatalf("%s: %d", src, e)
		}
		if !rising(lists) {
			t.Fatalf("%s: not in their order: %v", src, lists)
		}
		for _, l := range lists {
			holdParts(t, src, l)
			for _, e := range l {
				seen[e.Kind]++
			}
		}
	}
	for _, kind := range []int{api.EvBorn, api.EvMeet, api.EvExit, api.EvTrap, api.EvSpent} {
		if seen[kind] < 200 {
			t.Errorf("events of the kind %d: %d only", kind, seen[kind])
		}
	}
}

// P20.7: one that waits with arms that fit each other meets others alone.
func TestMeetsOthers(t *testing.T) {
	both := "val c = make chan of int; val f = prog() { select { case c <-= 1 { } case <-c { } } }; "
	tells(t, both+"f();", hundred(), 5, "")
	tells(t, both+"begin f(); f();", hundred(), 4, "born 0 1, meet 0 0 1 1 3", "born 0 1, meet 1 0 0 1 3")
	ahead := "born 0 1, "
	tells(t, both+"begin f(); f();", hundred(), 5, ahead+"meet 0 0 1 1 3, exit 0", ahead+"meet 0 0 1 1 3, exit 1", ahead+"meet 1 0 0 1 3, exit 0", ahead+"meet 1 0 0 1 3, exit 1")
}
