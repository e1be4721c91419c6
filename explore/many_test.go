package explore_test

import (
	"fmt"
	"runtime"
	"slices"
	"strings"
	"testing"

	"squint/api"
	"squint/explore"
)

// spinning is a program of so many processes, the first one too, of which each goes on for ever and tells nothing; behind the first transition.
func spinning(processes int) string {
	return "val spin = prog() { while true { } }; " + strings.Repeat("begin spin(); ", processes-1) + "while true { }"
}

// births is what a program tells that begins so many.
func births(many int) string {
	var out []string
	for k := range many {
		out = append(out, fmt.Sprintf("born 0 %d", k+1))
	}
	return strings.Join(out, ", ")
}

// P20.2: just as many runs as may come to their ends, at each depth, of which all tell the same; and a process more.
func TestMostRunsAlike(t *testing.T) {
	for _, x := range []struct{ depth, processes int }{{3, 64}, {4, 16}, {5, 8}} {
		tells(t, spinning(x.processes), vast(), x.depth, births(x.processes-1))
		tells(t, spinning(x.processes-1), vast(), x.depth, births(x.processes-2))
		refuses(t, spinning(x.processes+1), vast(), x.depth, api.ErrExploreMany)
		tells(t, spinning(x.processes+1), vast(), x.depth-1, births(x.processes))
		refuses(t, spinning(4*x.processes), vast(), x.depth, api.ErrExploreMany)
	}
}

// P20.2: one run fewer, and one more, than just as many: one of 64 processes ends in its first round, or begins another one.
func TestMostRunsButOne(t *testing.T) {
	begins := strings.Repeat("begin spin(); ", 62)
	for _, x := range []struct {
		last string
		more int // runs than 64 * 64
	}{{"", -1}, {"while true { }", 0}, {"val g = prog() { }; begin g(); while true { }", 1}, {"val g = prog() { }; begin g(); begin g(); while true { }", 2}} {
		src := "val spin = prog() { while true { } }; " + begins + "begin prog() { " + x.last + " }(); while true { }"
		for _, workers := range some {
			lists, e := explore.All([]byte(src), hundred(), 3, workers)
			if x.more > 0 && e != api.ErrExploreMany || x.more <= 0 && e != api.OK || e != api.OK && len(lists) > 0 {
				t.Errorf("%d more runs: %d, %d lists", x.more, e, len(lists))
			}
			if x.more == -1 && len(lists) != 2 || x.more == 0 && len(lists) != 1 {
				t.Errorf("%d more runs: %d lists", x.more, len(lists))
			}
		}
	}
}

// P20.2: just as many runs of which no two are alike, and one more: of 63 processes each begins one, but for the last, which begins 65 or 66.
func TestMostRunsUnlike(t *testing.T) {
	for many, want := range map[int]api.Errno{64: api.OK, 65: api.OK, 66: api.ErrExploreMany} {
		src := "val g = prog() { }; val f = prog() { begin g(); while true { } }; " + strings.Repeat("begin f(); ", 61) +
			"begin prog() { " + strings.Repeat("begin g(); ", many) + " while true { } }(); prog() { }(); while true { begin g(); }"
		for _, workers := range some {
			lists, e := explore.All([]byte(src), turned(turned(hundred(), 0, 500), 1, 500), 3, workers)
			if e != want || e == api.OK && len(lists) != 4096+many-65 {
				t.Errorf("one begins %d: %d, %d lists", many, e, len(lists))
			}
		}
	}
}

// selects is a select of so many arms that send on c, and so many that receive.
func selects(sending, receiving int) string {
	return "select { " + strings.Repeat("case c<-=1{}", sending) + strings.Repeat("case<-c{}", receiving) + " } "
}

// P20.2: pairs are runs, too: 64 arms that meet 64 others; and one more.
func TestMostPairs(t *testing.T) {
	for _, x := range []struct {
		sending, receiving int
		want               api.Errno
	}{{64, 64, api.OK}, {64, 63, api.OK}, {65, 64, api.ErrExploreMany}, {17, 241, api.ErrExploreMany}, {4096, 1, api.OK}, {1, 4096, api.OK}, {1, 4097, api.ErrExploreMany}, {4097, 1, api.ErrExploreMany}} {
		src := "val c = make chan of int; begin prog() { " + selects(0, x.receiving) + "}(); " + selects(x.sending, 0)
		tells(t, src, vast(), 2, "born 0 1")
		var want []string
		for i := range x.sending {
			for j := range x.receiving {
				want = append(want, fmt.Sprintf("born 0 1, meet 0 %d 1 %d 3", i, j))
			}
		}
		if x.want != api.OK {
			refuses(t, src, vast(), 3, x.want)
		} else if got, e := all(t, src, vast(), 3, 16); e != api.OK || !slices.Equal(got, want) {
			t.Errorf("%d and %d arms: %d, %d lists", x.sending, x.receiving, e, len(got))
		}
	}
}

// P20.2, R1: two that wait can meet in more ways than could be laid out: that they are too many is told all the same.
func TestGreatPairs(t *testing.T) {
	src := "val c = make chan of int; val f = prog() { " + selects(2700, 3400) + "}; begin f(); begin f(); begin f(); f();"
	var ahead, then runtime.MemStats
	runtime.ReadMemStats(&ahead)
	for depth, want := range []api.Errno{api.OK, api.OK, api.OK, api.OK, api.ErrExploreMany, api.ErrExploreMany} {
		for _, workers := range some {
			if _, e := explore.All([]byte(src), vast(), depth, workers); e != want {
				t.Errorf("%d deep: %d, not %d", depth, e, want)
			}
		}
	}
	runtime.ReadMemStats(&then)
	if used := (then.TotalAlloc - ahead.TotalAlloc) >> 20; used > 4000 {
		t.Errorf("%d MiB were used", used)
	}
}

// P20.2: as many processes as may live, each of which is a run.
func TestMostProcesses(t *testing.T) {
	src := "val f=prog(){<-input;};" + strings.Repeat("begin f();", 4095) + "while true{}"
	got, e := all(t, src, vast(), 2, 16)
	if e != api.OK || len(got) != 1 || got[0] != births(4095) {
		t.Errorf("%d, %d lists", e, len(got))
	}
	refuses(t, src, vast(), 3, api.ErrExploreMany)
}

// P20.2: runs that come to their ends ahead of the depth are runs likewise: what counts is how many there are, however long they are.
func TestMostShortRuns(t *testing.T) {
	// Behind each meeting both trap at once, so that a run has five transitions: two orders of them for each pair.
	for _, x := range []struct {
		sending, receiving int
		want               api.Errno
	}{{32, 64, api.OK}, {33, 64, api.ErrExploreMany}, {2048, 1, api.OK}, {1, 2049, api.ErrExploreMany}} {
		src := "val c = make chan of int; begin prog() { " + selects(0, x.receiving) + "val x = 1 / 0; }(); " + selects(x.sending, 0) + "val x = [1][1];"
		lists, e := explore.All([]byte(src), vast(), 5, 16)
		if e != x.want || e == api.OK && len(lists) != 2*x.sending*x.receiving {
			t.Errorf("%d and %d arms: %d, %d lists", x.sending, x.receiving, e, len(lists))
		}
	}
}
