package explore_test

import (
	"math"
	"slices"
	"strings"
	"testing"

	"squint/api"
	"squint/explore"
	"squint/trace"
)

const (
	least    = math.MinInt
	greatest = math.MaxInt
)

// hundred are limits that small programs keep to.
func hundred() api.Limits {
	return api.Limits{Procs: 100, Live: 100, Chans: 100, Ticks: 100, Cells: 100, Depth: 10, Nest: 100}
}

// vast are the greatest limits.
func vast() api.Limits {
	return api.Limits{Procs: 1048576, Live: 4096, Chans: 1048576, Ticks: 1048576, Cells: 1048576, Depth: 1048576, Nest: 65536}
}

// turned are limits with one of them, by its number, another one.
func turned(l api.Limits, k, n int) api.Limits {
	*[]*int{&l.Procs, &l.Live, &l.Chans, &l.Ticks, &l.Cells, &l.Depth, &l.Nest}[k] = n
	return l
}

// shown are lists as texts: each as the trace writes it, but for the commas. An event that is none of the trace's fails the test.
func shown(t *testing.T, lists [][]api.Event) (out []string) {
	t.Helper()
	for _, l := range lists {
		text, e := trace.Print(l)
		if e != api.OK {
			t.Fatalf("no events: %v", l)
		}
		out = append(out, strings.ReplaceAll(strings.TrimSuffix(text, "\n"), "\n", ", "))
	}
	return out
}

// all is what All answers, as texts.
func all(t *testing.T, src string, l api.Limits, depth, workers int) ([]string, api.Errno) {
	t.Helper()
	lists, e := explore.All([]byte(src), l, depth, workers)
	if e != api.OK && len(lists) > 0 {
		t.Errorf("%s: lists beside the error %d", shorter(src), e)
	}
	return shown(t, lists), e
}

func shorter(s string) string {
	if len(s) > 600 {
		return s[:200] + " .. " + s[len(s)-200:]
	}
	return s
}

// some are the numbers of workers by which a source is explored where they do not matter.
var some = []int{1, 2, 5, 16}

// tells holds all lists of a source against what they are to be.
func tells(t *testing.T, src string, l api.Limits, depth int, want ...string) {
	t.Helper()
	for _, workers := range some {
		if got, e := all(t, src, l, depth, workers); e != api.OK || !slices.Equal(got, want) {
			t.Errorf("%s\n %d deep, %d workers: %d, %d lists:\n %s\n not %d:\n %s", shorter(src), depth, workers, e, len(got), shorter(strings.Join(got, "\n ")), len(want), shorter(strings.Join(want, "\n ")))
		}
	}
}

// refuses holds the error of a source against what it is to be.
func refuses(t *testing.T, src string, l api.Limits, depth int, want api.Errno) {
	t.Helper()
	for _, workers := range some {
		if got, e := all(t, src, l, depth, workers); e != want {
			t.Errorf("%s\n with %v, %d deep, %d workers: %d, %d lists, not %d", shorter(src), l, depth, workers, e, len(got), want)
		}
	}
}

// The chapter's examples.
func TestExamples(t *testing.T) {
	tells(t, "", hundred(), 0, "")
	tells(t, "", hundred(), 3, "exit 0")
	speaks := "val c = make chan of int; begin prog() { c <-= 7; }(); <-c;"
	tells(t, speaks, hundred(), 1, "born 0 1")
	tells(t, speaks, hundred(), 3, "born 0 1, meet 1 0 0 0 3")
	refuses(t, "begin prog() { }(); begin prog() { 1 / 0; }();", hundred(), 3, api.ErrCheckIdle)
	tells(t, "begin prog() { }(); begin prog() { val x = 1 / 0; }();", hundred(), 3,
		"born 0 1, born 0 2, exit 0, exit 1, trap 2 divide", "born 0 1, born 0 2, exit 0, trap 2 divide, exit 1")
	refuses(t, "", hundred(), 6, api.ErrArg)
	if got, e := all(t, "", hundred(), 3, 0); e != api.ErrArg || len(got) > 0 {
		t.Errorf("0 workers: %d", e)
	}
	refuses(t, "1 +;", hundred(), 3, api.ErrParseWant)
}

// P20.1: a program at each depth: a run comes to its end at the depth, or where no transition is left.
func TestDepths(t *testing.T) {
	src := "val c = make chan of int; begin prog() { c <-= 7; }(); <-c;"
	tells(t, src, hundred(), 0, "")
	tells(t, src, hundred(), 1, "born 0 1")
	tells(t, src, hundred(), 2, "born 0 1")
	tells(t, src, hundred(), 3, "born 0 1, meet 1 0 0 0 3")
	tells(t, src, hundred(), 4, "born 0 1, meet 1 0 0 0 3, exit 0", "born 0 1, meet 1 0 0 0 3, exit 1")
	tells(t, src, hundred(), 5, "born 0 1, meet 1 0 0 0 3, exit 0, exit 1", "born 0 1, meet 1 0 0 0 3, exit 1, exit 0")
}

// P20.2: numbers of depth and of workers that may be, and those that may not.
func TestArguments(t *testing.T) {
	depths := map[int]bool{0: true, 1: true, 2: true, 3: true, 4: true, 5: true, 6: false, 7: false, -1: false, -5: false, 16: false, 1 << 32: false, 1<<32 + 5: false, -1 << 32: false, least: false, greatest: false}
	crowds := map[int]bool{1: true, 2: true, 15: true, 16: true, 0: false, 17: false, -1: false, -16: false, 1<<32 + 1: false, least: false, least + 1: false, greatest: false}
	for depth, right := range depths {
		for workers, enough := range crowds {
			got, e := all(t, "while true { }", hundred(), depth, workers)
			if right && enough && (e != api.OK || !slices.Equal(got, []string{""})) || !(right && enough) && (e != api.ErrArg || len(got) > 0) {
				t.Errorf("%d deep, %d workers: %d, %q", depth, workers, e, got)
			}
		}
	}
}

// P20.2: each number of the document's.
func TestNumbers(t *testing.T) {
	for name, two := range map[string][2]int{"MaxDepth": {api.MaxDepth, 5}, "MaxEnds": {api.MaxEnds, 4096}, "ErrExploreMany": {int(api.ErrExploreMany), 200}, "ErrCrewLimits": {int(api.ErrCrewLimits), 160}, "ErrArg": {int(api.ErrArg), 1}} {
		if two[0] != two[1] {
			t.Errorf("%s is %d", name, two[0])
		}
	}
}
