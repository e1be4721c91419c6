package trace_test

import (
	"slices"
	"testing"
	"unsafe"

	"squint/api"
	"squint/trace"
)

const spoil = 4711

var spoilEvent = api.Event{Kind: spoil, P: spoil, I: spoil, Q: spoil, J: spoil, Chan: spoil, Num: spoil}

// room is a list with other numbers ahead of it and behind its end.
func room(list ...int) []int {
	all := append(append([]int{spoil, spoil}, list...), spoil, spoil, spoil)
	return all[2 : 2+len(list)]
}

func copied(l []api.Event) []api.Event {
	out := slices.Clone(l)
	for k := range out {
		out[k].List = slices.Clone(out[k].List)
	}
	return out
}

// R4: Check and Print change nothing of what they are given, nor of the room behind it.
func TestHandedIn(t *testing.T) {
	for _, one := range []api.Event{{Kind: api.EvBorn, P: 1, Q: 2}, {Kind: api.EvProbe, List: room(1, 4, 9)}, {Kind: api.EvProbe, List: room(4, 1)}, {Kind: api.EvProbe, List: room()}, {Kind: api.EvIdle, List: room(1)}, {Kind: 99, List: room(3, 2, 1)}, {Kind: api.EvTrap, Num: 9}} {
		all := []api.Event{spoilEvent, {Kind: api.EvProbe, List: room(0, 2)}, one, {Kind: api.EvSkip}, spoilEvent, spoilEvent}
		before := copied(all)
		trace.Check(one)
		trace.Print(all[1:4])
		if !sameAll(all, before) {
			t.Error(all)
		}
		for _, e := range all[1:4] {
			behind := e.List[len(e.List):cap(e.List)]
			if len(behind) > 0 && !slices.Equal(behind[:3], []int{spoil, spoil, spoil}) {
				t.Error("the room behind a List was changed:", behind)
			}
		}
	}
}

// R4: what becomes of the events behind a call is not seen in what it wrote.
func TestPrintKeepsNothing(t *testing.T) {
	list := []int{1, 2, 3}
	l := []api.Event{{Kind: api.EvProbe, List: list}, {Kind: api.EvExit, P: 5}}
	text, _ := trace.Print(l)
	list[0], list[1], list[2] = spoil, spoil, spoil
	l[0], l[1] = spoilEvent, spoilEvent
	trace.Print([]api.Event{{Kind: api.EvMeet}, {Kind: api.EvMeet}, {Kind: api.EvMeet}})
	if text != "probe 1 2 3\nexit 5\n" {
		t.Error(text)
	}
}

// R4: a text whose bytes change behind the call is not seen in the events.
func TestParseKeepsNothing(t *testing.T) {
	const written = "probe 1 2 3\ntrap 4 index\nin 5 6 -7\n"
	bytes := []byte(written)
	l, _, _ := trace.Parse(unsafe.String(&bytes[0], len(bytes)))
	if string(bytes) != written {
		t.Errorf("the text was changed: %q", bytes)
	}
	for k := range bytes {
		bytes[k] = 'x'
	}
	if !sameAll(l, []api.Event{{Kind: api.EvProbe, List: []int{1, 2, 3}}, {Kind: api.EvTrap, P: 4, Num: 2}, {Kind: api.EvIn, Q: 5, J: 6, Num: -7}}) {
		t.Error(l)
	}
}

// overwrite writes into a list and the room behind its end.
func overwrite(list []int) {
	list = list[:cap(list)]
	for k := range list {
		list[k] = spoil
	}
}

// R4: what a caller writes into the events of an answer, into their Lists and into the room behind them, no other answer shows.
func TestAnswersAreApart(t *testing.T) {
	for _, text := range []string{"", "idle\n", "probe\n", "probe 1\n", "probe 1 2 3\nexit 1\nprobe 4 5 6 7 8\n", "born 0 1\nmeet 0 1 2 3 4\nprobe\nprobe 1\nprobe 1 2\nprobe 1 2 3\nprobe 1 2 3 4\n"} {
		want, _, _ := reading(text)
		earlier, _, _ := trace.Parse(text)
		l, _, _ := trace.Parse(text)
		for _, e := range l {
			overwrite(e.List)
		}
		all := l[:cap(l)]
		for k := range all {
			all[k] = spoilEvent
		}
		later, _, _ := trace.Parse(text)
		if !sameAll(earlier, want) || !sameAll(later, want) {
			t.Errorf("%q: %v, %v", text, earlier, later)
		}
		for _, e := range later[:cap(later)] {
			if e.Kind == spoil || slices.Contains(e.List[:cap(e.List)], spoil) {
				t.Errorf("%q: the room behind a list shows what another answer got", text)
			}
		}
		if again, code := trace.Print(later); again != text || code != api.OK {
			t.Errorf("%q: %q, %d", text, again, code)
		}
	}
}

// R4: no two Lists of one answer share any memory.
func TestListsAreApart(t *testing.T) {
	const text = "probe 1\nprobe 1 2\nidle\nprobe 1 2 3\nprobe\nprobe 1 2 3 4 5 6 7 8 9\nprobe 0\n"
	want, _, _ := reading(text)
	for k := range want {
		l, _, _ := trace.Parse(text)
		overwrite(l[k].List)
		for n, e := range l {
			if n != k && (!same(e, want[n]) || slices.Contains(e.List[:cap(e.List)], spoil)) {
				t.Errorf("what is written into the List of %d is seen in that of %d: %v", k, n, e)
			}
		}
	}
}

// R5: a call answers the same, whatever was asked between.
func TestAgain(t *testing.T) {
	texts := []string{"idle\nexit 1\n", "", "exit 01\n", "probe 1 2\n", "probe 2 1\n", "idle", "born 0 1\nmeet 1 0 0 0 3\n"}
	for range 3 {
		for _, text := range texts {
			holdParse(t, text)
		}
		holdPrint(t, []api.Event{{Kind: api.EvProbe, List: []int{1, 1}}})
		holdPrint(t, []api.Event{{Kind: api.EvProbe, List: []int{1, 2}}, {Kind: api.EvSpent, P: 1, Num: 6}})
	}
}
