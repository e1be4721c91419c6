package explore_test

import (
	"slices"
	"strings"
	"testing"
	"unsafe"

	"squint/api"
	"squint/explore"
)

// R4: what is handed in stays as it is, and the room behind it; and what was answered does not hang on it.
func TestHandedIn(t *testing.T) {
	for _, x := range shared {
		for _, l := range []api.Limits{hundred(), turned(hundred(), 3, 2), {}} {
			for _, depth := range []int{x.depth, 0, 6} {
				src := append([]byte(x.src), "$$$$$$$$$"...)
				lists, e := explore.All(src[:len(x.src)], l, depth, 8)
				if string(src) != x.src+"$$$$$$$$$" {
					t.Errorf("it changes what it is handed: %q", src)
				}
				was := shown(t, lists)
				for k := range src {
					src[k] = '!'
				}
				if now := shown(t, lists); !slices.Equal(now, was) {
					t.Errorf("%s: the answer changes with what was handed in", shorter(x.src))
				}
				again, f := explore.All([]byte(x.src), l, depth, 3)
				if f != e || !alike(again, lists) {
					t.Errorf("%s: another answer", shorter(x.src))
				}
			}
		}
	}
}

// span is where a list stands, with the room behind it.
type span struct{ from, to uintptr }

func spanOf[T any](l []T) span {
	from := uintptr(unsafe.Pointer(unsafe.SliceData(l)))
	return span{from, from + uintptr(cap(l))*unsafe.Sizeof(*new(T))}
}

// spans are those of an answer, with the room behind its lists.
func spans(lists [][]api.Event) []span {
	out := []span{spanOf(lists)}
	for _, l := range lists[:cap(lists)] {
		out = append(out, spanOf(l))
		for _, e := range l[:cap(l)] {
			out = append(out, spanOf(e.List))
		}
	}
	return slices.DeleteFunc(out, func(s span) bool { return s.from == s.to })
}

// apart tells whether no two spans have anything in common.
func apart(all []span) bool {
	slices.SortFunc(all, func(a, b span) int { return slices.Compare([]int{int(a.from)}, []int{int(b.from)}) })
	for k := 1; k < len(all); k++ {
		if all[k].from < all[k-1].to {
			return false
		}
	}
	return true
}

// spoil writes over all that an answer has, and over the room behind it.
func spoil(lists [][]api.Event) {
	lists = lists[:cap(lists)]
	for k, l := range lists {
		for at := range l[:cap(l)] {
			e := &l[:cap(l)][at]
			for n := range e.List[:cap(e.List)] {
				e.List[:cap(e.List)][n] = 4711
			}
			*e = api.Event{Kind: 4711, List: []int{4711}}
		}
		lists[k] = nil
	}
}

// P20.3, R4: what was answered is the caller's own: no two lists share memory, and whatever is written there shows nowhere else.
func TestAnswersOwn(t *testing.T) {
	for _, x := range shared {
		var answers [][][]api.Event
		var was [][]string
		var all []span
		for _, workers := range []int{1, 4, 16} {
			lists, _ := explore.All([]byte(x.src), hundred(), x.depth, workers)
			answers, was, all = append(answers, lists), append(was, shown(t, lists)), append(all, spans(lists)...)
		}
		if !apart(all) {
			t.Errorf("%s: two lists share memory", shorter(x.src))
		}
		for k, lists := range answers {
			spoil(lists)
			for after := k + 1; after < len(answers); after++ {
				if !slices.Equal(shown(t, answers[after]), was[after]) {
					t.Errorf("%s: an answer shows what was written to another one", shorter(x.src))
				}
			}
			if again, _ := explore.All([]byte(x.src), hundred(), x.depth, 5); !slices.Equal(shown(t, again), was[0]) {
				t.Errorf("%s: a later answer is another one", shorter(x.src))
			}
		}
	}
}

// R4: each list of an answer alone: what is written to one, also by an append to it, is not seen at the next.
func TestListsOwn(t *testing.T) {
	lists, _ := explore.All([]byte(shared[2].src), hundred(), 5, 4)
	was := shown(t, lists)
	for k := range lists {
		_ = append(lists[k], api.Event{Kind: 4711}, api.Event{Kind: 4711})
		for at := range lists[k] {
			lists[k][at] = api.Event{Kind: 4711}
		}
		if now := shown(t, lists[k+1:]); strings.Join(now, ";") != strings.Join(was[k+1:], ";") {
			t.Fatalf("what is written to the list %d is seen behind it", k)
		}
	}
}

// R4: of events with Lists, which no step tells, both lists and their numbers are new memory.
func TestNewMemory(t *testing.T) {
	list := append(make([]int, 0, 9), 1, 2, 3)
	leg := []api.Event{{Kind: api.EvProbe, List: list}, {Kind: api.EvIdle}}
	lists := explore.Unlike([][][]api.Event{{leg, leg}, {leg}, {leg, nil, leg, leg}})
	all := append(spans(lists), spanOf(list), spanOf(leg))
	if len(lists) != 3 || !apart(all) {
		t.Fatalf("%v", lists)
	}
	spoil(lists[1:])
	if len(leg) != 2 || len(leg[0].List) != 3 || leg[0].List[0] != 1 || leg[1].Kind != api.EvIdle || lists[0][0].List[2] != 3 {
		t.Errorf("%v, %v", leg, lists)
	}
}
