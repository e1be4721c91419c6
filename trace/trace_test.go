package trace_test

import (
	"math"
	"slices"
	"testing"

	"squint/api"
	"squint/trace"
)

// fields are those of an event that are numbers.
func fields(e *api.Event) []*int { return []*int{&e.P, &e.I, &e.Q, &e.J, &e.Chan, &e.Num} }

// sample is an event of each kind, with other numbers than 0 in the fields that its line names, its line, and which of these must be 0 or above (by their numbers in fields).
type sample struct {
	event api.Event
	line  string
	from0 []int
}

var samples = []sample{
	{api.Event{Kind: api.EvBorn, P: 2, Q: 3}, "born 2 3", []int{0, 2}},
	{api.Event{Kind: api.EvMeet, P: 4, I: 5, Q: 6, J: 7, Chan: 8}, "meet 4 5 6 7 8", []int{0, 1, 2, 3, 4}},
	{api.Event{Kind: api.EvIn, Q: 9, J: 10, Num: -11}, "in 9 10 -11", []int{2, 3}},
	{api.Event{Kind: api.EvOut, P: 12, I: 13, Num: -14}, "out 12 13 -14", []int{0, 1}},
	{api.Event{Kind: api.EvExit, P: 15}, "exit 15", []int{0}},
	{api.Event{Kind: api.EvTrap, P: 16, Num: api.TrapFill}, "trap 16 fill", []int{0}},
	{api.Event{Kind: api.EvSkip}, "skip", nil},
	{api.Event{Kind: api.EvIdle}, "idle", nil},
	{api.Event{Kind: api.EvProbe, List: []int{0, 17, 18}}, "probe 0 17 18", nil},
	{api.Event{Kind: api.EvReap, P: 19}, "reap 19", []int{0}},
	{api.Event{Kind: api.EvSpent, P: 20, Num: api.SpentLive}, "spent 20 live", []int{0}},
}

// holdEvent holds an event against whether it may be: by Check, alone by Print, and by Print among others.
func holdEvent(t *testing.T, e api.Event, right bool) {
	t.Helper()
	want := api.ErrTraceForm
	if right {
		want = api.OK
	}
	if code := trace.Check(e); code != want {
		t.Errorf("Check(%v): %d, not %d", e, code, want)
	}
	idle := api.Event{Kind: api.EvIdle}
	for _, l := range [][]api.Event{{e}, {e, idle}, {idle, e, idle}, {idle, idle, e}} {
		if code := holdPrint(t, l); code != want {
			t.Errorf("Print(%v): %d, not %d", l, code, want)
		}
	}
}

// P18.1: the kinds that there are, and others.
func TestKinds(t *testing.T) {
	for k, s := range samples {
		if s.event.Kind != k+1 {
			t.Fatal(s)
		}
		holdEvent(t, s.event, true)
		for _, kind := range []int{-s.event.Kind, s.event.Kind + 1<<32, s.event.Kind + math.MinInt, s.event.Kind + 256, ^s.event.Kind} {
			e := s.event
			e.Kind = kind
			holdEvent(t, e, false)
		}
	}
	for _, kind := range []int{0, -1, 12, 13, 16, 1 << 32, math.MaxInt, math.MaxInt - 1, math.MinInt, math.MinInt + 1} {
		holdEvent(t, api.Event{Kind: kind}, false)
		holdEvent(t, api.Event{Kind: kind, P: 1}, false)
		holdEvent(t, api.Event{Kind: kind, List: []int{1}}, false)
	}
}

// P18.1: each field of each kind at each edge, whether its line names it or not.
func TestFields(t *testing.T) {
	for _, s := range samples {
		for f := range 6 {
			for _, n := range []int{0, 1, 2, 11, 1 << 31, 1 << 32, math.MaxInt - 1, math.MaxInt, -1, -2, -1 << 32, math.MinInt + 1, math.MinInt} {
				e := s.event
				*fields(&e)[f] = n
				right := n == 0 || n > 0 && slices.Contains(s.from0, f)
				if f == 5 {
					right = numRight(e.Kind, n)
				}
				holdEvent(t, e, right)
			}
		}
	}
}

// numRight tells whether Num may be n in an event of a kind.
func numRight(kind, n int) bool {
	switch kind {
	case api.EvIn, api.EvOut:
		return true
	case api.EvTrap:
		return 1 <= n && n <= 5
	case api.EvSpent:
		return 1 <= n && n <= 6
	}
	return n == 0
}

// P18.1: two fields that are wrong do not make a right one.
func TestTwoFields(t *testing.T) {
	some := []int{0, 1, -1, math.MaxInt, math.MinInt}
	for _, s := range samples {
		for f := range 6 {
			for g := range f {
				for _, n := range some {
					for _, m := range some {
						e := s.event
						*fields(&e)[f], *fields(&e)[g] = n, m
						_, right := lineRight(e)
						holdEvent(t, e, right)
					}
				}
			}
		}
	}
}

// P18.1: all fields at once: all that are named at 0, at the greatest int, at -1.
func TestAllFields(t *testing.T) {
	for _, s := range samples {
		for _, n := range []int{0, 1, math.MaxInt, -1, math.MinInt} {
			e := s.event
			for _, f := range s.from0 {
				*fields(&e)[f] = n
			}
			holdEvent(t, e, n >= 0 || len(s.from0) == 0)
		}
		e := api.Event{Kind: s.event.Kind, P: 1, I: 1, Q: 1, J: 1, Chan: 1, Num: 1, List: []int{1}}
		holdEvent(t, e, false)
	}
}

// P18.1: Num of those that write it as a word, and of those that write it as a number.
func TestNum(t *testing.T) {
	for n := -3; n <= 300; n++ {
		holdEvent(t, api.Event{Kind: api.EvTrap, Num: n}, n >= api.TrapDivide && n <= api.TrapWrong)
		holdEvent(t, api.Event{Kind: api.EvSpent, Num: n}, n >= api.SpentProcs && n <= api.SpentDepth)
		holdEvent(t, api.Event{Kind: api.EvIn, Num: n}, true)
		holdEvent(t, api.Event{Kind: api.EvOut, Num: n}, true)
	}
	for _, n := range []int{1<<32 + 1, math.MinInt + 1, math.MaxInt, math.MinInt, 1<<63 - 5, -1 << 32} {
		holdEvent(t, api.Event{Kind: api.EvTrap, Num: n}, false)
		holdEvent(t, api.Event{Kind: api.EvSpent, Num: n}, false)
		holdEvent(t, api.Event{Kind: api.EvIn, Num: n}, true)
		holdEvent(t, api.Event{Kind: api.EvOut, Num: n}, true)
	}
}

// P18.1: a List is an EvProbe's alone.
func TestListOfOthers(t *testing.T) {
	for _, s := range samples {
		if s.event.Kind == api.EvProbe {
			continue
		}
		for _, list := range [][]int{{0}, {1}, {-1}, {math.MaxInt}, {0, 1}, {2, 1}, make([]int, 100)} {
			e := s.event
			e.List = list
			holdEvent(t, e, false)
		}
		for _, list := range [][]int{nil, {}, make([]int, 0, 9), make([]int, 9)[4:4]} {
			e := s.event
			e.List = list
			holdEvent(t, e, true)
		}
	}
}

// P18.1: which Lists an EvProbe may have.
func TestLists(t *testing.T) {
	right := [][]int{nil, {}, make([]int, 0, 5), {0}, {1}, {math.MaxInt}, {0, 1}, {0, 2}, {3, 9, 10}, {0, math.MaxInt}, {math.MaxInt - 1, math.MaxInt}, {9, 10, 11, 100}, rising(0, 1, 5000), rising(7, 3, 4096)}
	for _, list := range right {
		holdEvent(t, api.Event{Kind: api.EvProbe, List: list}, true)
	}
	wrong := [][]int{{-1}, {math.MinInt}, {-1, 0}, {-2, -1}, {math.MinInt, math.MaxInt}, {0, 0}, {2, 2}, {math.MaxInt, math.MaxInt}, {1, 0}, {10, 9}, {math.MaxInt, 0}, {0, math.MinInt}, {0, -1}, {1, 2, 2}, {1, 1, 2}, {1, 3, 2}, {2, 1, 3}, {0, 1, 2, -1}, {1, 2, 3, 0}}
	for _, list := range wrong {
		holdEvent(t, api.Event{Kind: api.EvProbe, List: list}, false)
	}
	for _, at := range []int{1, 2, 1000, 1998, 1999} {
		list := rising(0, 2, 2000)
		list[at] = list[at-1]
		holdEvent(t, api.Event{Kind: api.EvProbe, List: list}, false)
		list[at]--
		holdEvent(t, api.Event{Kind: api.EvProbe, List: list}, false)
		list[at] += 2
		holdEvent(t, api.Event{Kind: api.EvProbe, List: list}, true)
	}
	for _, f := range []int{0, 1, 2, 3, 4, 5} {
		e := api.Event{Kind: api.EvProbe, List: []int{0, 1}}
		*fields(&e)[f] = 1
		holdEvent(t, e, false)
	}
}

// rising are so many numbers from the first one on.
func rising(first, by, many int) []int {
	list := make([]int, many)
	for k := range list {
		list[k] = first + k*by
	}
	return list
}

// TestListsOfThree: all Lists of up to three small numbers.
func TestListsOfThree(t *testing.T) {
	holdEvent(t, api.Event{Kind: api.EvProbe}, true)
	for a := -1; a < 4; a++ {
		holdEvent(t, api.Event{Kind: api.EvProbe, List: []int{a}}, a >= 0)
		for b := -1; b < 4; b++ {
			holdEvent(t, api.Event{Kind: api.EvProbe, List: []int{a, b}}, a >= 0 && a < b)
			for c := -1; c < 4; c++ {
				holdEvent(t, api.Event{Kind: api.EvProbe, List: []int{a, b, c}}, a >= 0 && a < b && b < c)
			}
		}
	}
}

// The chapter's examples.
func TestExamples(t *testing.T) {
	text, code := trace.Print([]api.Event{{Kind: api.EvBorn, Q: 1}, {Kind: api.EvMeet, P: 1, Chan: 3}, {Kind: api.EvProbe, List: []int{0, 2}}, {Kind: api.EvTrap, P: 2, Num: api.TrapIndex}, {Kind: api.EvIdle}})
	if text != "born 0 1\nmeet 1 0 0 0 3\nprobe 0 2\ntrap 2 index\nidle\n" || code != api.OK {
		t.Errorf("%q, %d", text, code)
	}
	if text, code := trace.Print([]api.Event{{Kind: api.EvIn, Num: -5}}); text != "in 0 0 -5\n" || code != api.OK {
		t.Errorf("%q, %d", text, code)
	}
	if text, code := trace.Print([]api.Event{{Kind: api.EvProbe}}); text != "probe\n" || code != api.OK {
		t.Errorf("%q, %d", text, code)
	}
	for _, e := range []api.Event{{Kind: api.EvExit, P: -1}, {Kind: api.EvIdle, P: 1}, {Kind: 12}, {Kind: api.EvTrap, Num: 6}, {Kind: api.EvProbe, List: []int{2, 2}}} {
		if code := trace.Check(e); code != api.ErrTraceForm {
			t.Error(e, code)
		}
	}
	hold(t, wrong("exit 0\nexit 00\n", 2), right(""), wrong("idle", 1), wrong("\n", 1))
}
