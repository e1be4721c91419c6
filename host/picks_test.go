package host_test

import (
	"fmt"
	"strings"
	"testing"

	"squint/api"
)

// stage is a source, and picks behind which 6 is ready, 1 and 0 can meet, the world can send to 2 and 3, and receive from 4 and 5.
const (
	stage      = "val c = make chan of int; val g = prog() { c <-= 7; }; val h = prog() { <-input; }; val o = prog() { output <-= 8; }; begin g(); begin h(); begin h(); begin o(); begin o(); begin prog() { while true { } }(); <-c;"
	stagePicks = "step 0, step 0, step 0, step 0, step 0, step 0"
	stageTells = "born 0 1, born 0 2, born 0 3, born 0 4, born 0 5, born 0 6"
)

func behind(first, more string) string {
	return strings.Join(append(words(first), words(more)...), ", ")
}

// numbers are such as nothing has.
var numbers = []int{-1, -2, -7, 1 << 20, -1 << 32, 1 << 32, greatest - 1, least + 1, greatest, least}

var oddKinds = []int{0, -1, -2, -3, -4, 5, 6, 7, 8, 9, 10, 100, 257, 1<<32 + 1, 1<<32 + 4, greatest, least}

// P19.1, P19.2: each kind of pick, with numbers that are right and such as are not.
func TestPicks(t *testing.T) {
	stands := func(does, tells string) {
		t.Helper()
		told(t, stage, hundred(), behind(stagePicks, does), behind(stageTells, tells))
		reaping(t, stage, hundred(), behind(stagePicks, does), behind(stageTells, tells))
	}
	stands("", "")
	stands("step 0", "")
	stands("step 1", "meet 1 0 0 0 3")
	stands("step 2", "skip")
	stands("step 0, step 0, step 1, step 2, step 0, step 0", "meet 1 0 0 0 3, exit 0, exit 1")
	stands("step 1, step 2, step 1", "meet 1 0 0 0 3, exit 1")
	stands("step 1, step 3, step 0, step 2, step 0", "meet 1 0 0 0 3, skip, exit 0, skip, exit 1")
	stands("in 0 5, in 0 -9, in 0 1, step 0, step 0", "in 2 0 5, in 3 0 -9, skip, exit 2, exit 3")
	stands("in 1 0, in 0 1", "in 3 0 0, in 2 0 1")
	stands("in 2 5", "skip")
	stands(fmt.Sprint("in 0 ", greatest, ", in 0 ", least), fmt.Sprint("in 2 0 ", greatest, ", in 3 0 ", least))
	stands("out 0, out 0, out 0", "out 4 0 8, out 5 0 8, skip")
	stands("out 1, out 0, step 0, step 0", "out 5 0 8, out 4 0 8, exit 4, exit 5")
	stands("out 2", "skip")
	stands("probe", "probe")
	for _, n := range numbers {
		stands(fmt.Sprintf("step %d, in %d 5, out %d", n, n, n), "skip, skip, skip")
		stands(fmt.Sprintf("kind 1 1 %d, kind 3 0 %d, kind 4 %d %d, kind 4 0 %d", n, n, n, n, n), "meet 1 0 0 0 3, out 4 0 8, probe, probe")
		stands(fmt.Sprintf("kind 2 0 %d", n), fmt.Sprintf("in 2 0 %d", n))
	}
	for _, kind := range oddKinds {
		stands(fmt.Sprintf("kind %d 0 0, kind %d 1 5, kind %d %d %d, step 1", kind, kind, kind, least, greatest), "skip, skip, skip, meet 1 0 0 0 3")
	}
}

// P19.1, P19.2: picks where nothing can happen.
func TestIdle(t *testing.T) {
	for _, one := range []struct{ src, tells, dead string }{{"", "exit 0", "probe"}, {"select { }", "", "probe 0"}, {"val x = 1 / 0;", "trap 0 divide", "probe"}} {
		for _, n := range append(numbers, 0, 1, 5) {
			told(t, one.src, hundred(), fmt.Sprintf("step 0, step %d, in %d 1, out %d, kind 9 %d, probe", n, n, n, n), behind(one.tells, "idle, skip, skip, skip, "+one.dead))
		}
		for _, kind := range oddKinds {
			told(t, one.src, hundred(), fmt.Sprintf("step 0, kind %d 0 0, step 0", kind), behind(one.tells, "skip, idle"))
		}
	}
}

// P19.1, P19.2: ahead of the first step nothing waits; a script of no picks tells nothing.
func TestNoPicks(t *testing.T) {
	for _, src := range []string{"", rightSource, stage, "while true { }", "val x = 1 / 0;"} {
		told(t, src, hundred(), "", "")
		reaping(t, src, hundred(), "", "")
		for _, f := range faces {
			if got, want := show(f.run([]byte(src), api.Script{Limits: hundred(), Picks: []api.Pick{}})), show(api.Result{}, api.OK); got != want {
				t.Errorf("%s of %s by no picks: %s", f.name, src, got)
			}
		}
		told(t, src, hundred(), "in 0 1, out 0, step 1, kind 0, probe", "skip, skip, skip, skip, probe")
	}
}

// allPicks is each kind of pick, with numbers that may be right and such as are not.
func allPicks() string {
	out := "step 0, step 1, in 0 5, in 1 5, out 0, out 1, probe"
	for _, n := range numbers {
		out += fmt.Sprintf(", step %d, in %d 5, out %d, kind 4 %d", n, n, n, n)
	}
	for _, kind := range oddKinds {
		out += fmt.Sprintf(", kind %d 0 0", kind)
	}
	return out
}

// P19.1, P19.2: each counter: what just keeps to the limit, and what passes it by one; behind that nothing is told.
func TestSpent(t *testing.T) {
	const procs, live, chans, ticks, cells, depth = 0, 1, 2, 3, 4, 5
	two := "val f = prog() { <-input; }; begin f(); begin f();"
	deep := "val f = prog g(n: int) { if n > 1 { g(n - 1); } }; f(3);"
	for _, x := range []struct {
		src           string
		counter, most int
		does, within  string
		beyond        string
	}{
		{two, procs, 3, "step 0", "born 0 1, born 0 2, exit 0", "born 0 1, spent 0 procs"},
		{"begin prog() { }();", procs, 2, "step 0", "born 0 1, exit 0", "spent 0 procs"},
		{two, live, 3, "step 0", "born 0 1, born 0 2, exit 0", "born 0 1, spent 0 live"},
		{"val f = prog() { }; begin f(); <-input; begin f();", live, 2, "step 0, step 0, in 0 1, step 0", "born 0 1, exit 1, in 0 0 1, born 0 2, exit 0", "spent 0 live"},
		{"val a = make chan of int; val b = make chan of bool;", chans, 2, "step 0", "exit 0", "spent 0 chans"},
		{"begin prog() { val a = make chan of int; }();", chans, 1, "step 0, step 0", "born 0 1, exit 0, exit 1", "born 0 1, exit 0, spent 1 chans"},
		{"begin prog() { var i: int; while i < 3 { i = i + 1; } }();", ticks, 3, "step 0, step 0, step 0, step 0, step 0", "born 0 1, exit 0, exit 1", "born 0 1, exit 0, spent 1 ticks"},
		{deep, ticks, 3, "step 0, step 0, step 0, step 0", "exit 0", "spent 0 ticks"},
		{"val t = (1, 2); begin prog() { val u = (3, 4, 5); }(); val a = [6];", cells, 10, "step 0, step 0", "born 0 1, exit 0, exit 1", "born 0 1, exit 0, spent 1 cells"},
		{"val a = fill(9, 0); output <-= len(a);", cells, 10, "step 0, out 0", "out 0 0 9", "spent 0 cells"},
		{deep, depth, 4, "step 0, step 0, step 0, step 0", "exit 0", "spent 0 depth"},
	} {
		told(t, x.src, turned(hundred(), x.counter, x.most), x.does, x.within)
		less := turned(hundred(), x.counter, x.most-1)
		told(t, x.src, less, x.does, x.beyond)
		told(t, x.src, less, behind(x.does, allPicks()), x.beyond)
		reaping(t, x.src, less, behind(x.does, allPicks()), x.beyond)
	}
}

// P19.1, P19.2: a pick of no kind of a crew that is spent tells nothing, however much could happen in it.
func TestSpentStage(t *testing.T) {
	l := turned(hundred(), 3, 1)
	told(t, stage, l, behind(stagePicks, "step 0, probe, kind 0, step 0"), behind(stageTells, "probe, skip, spent 6 ticks"))
	told(t, stage, l, behind(stagePicks, "step 0, step 0, "+allPicks()), behind(stageTells, "spent 6 ticks"))
	reaping(t, stage, l, behind(stagePicks, "step 0, step 0, "+allPicks()), behind(stageTells, "spent 6 ticks"))
	for _, kind := range oddKinds {
		told(t, stage, l, behind(stagePicks, fmt.Sprintf("step 0, step 0, kind %d 0 0", kind)), behind(stageTells, "spent 6 ticks"))
	}
}

// P19.1, P19.2: which limit is told where two are passed at once.
func TestSpentTogether(t *testing.T) {
	three := "val f = prog() { <-input; }; begin f(); begin f();"
	told(t, three, turned(turned(hundred(), 0, 2), 1, 2), "step 0", "born 0 1, spent 0 procs")
	told(t, three, turned(turned(hundred(), 0, 3), 1, 2), "step 0", "born 0 1, spent 0 live")
	call := "val f = prog() { }; f();"
	told(t, call, turned(turned(hundred(), 5, 1), 3, 1), "step 0", "spent 0 depth")
	told(t, "while true { } ", turned(hundred(), 3, 2), "step 0, step 0, step 0, step 0", "spent 0 ticks")
}

// P19.1, P19.2: programs that trap, in each way.
func TestTraps(t *testing.T) {
	for src, trap := range map[string]string{
		"val x = 1 / 0;":                                      "divide",
		"val x = 1 % 0;":                                      "divide",
		"val x = 5 / (2 - 2);":                                "divide",
		"val a = [1, 2]; output <-= a[2];":                    "index",
		"val a = [1, 2]; output <-= a[-1];":                   "index",
		"var a: array of int; output <-= a[0];":               "index",
		"var a: array of int; a[0] = 1;":                      "index",
		"var a: (int, array of int); a.1[0] = 1;":             "index",
		"val a = fill(3, 1); val x = a[9223372036854775807];": "index",
		"val a = fill(-1, 0);":                                "fill",
		"val a = fill(-9223372036854775807 - 1, 0);":          "fill",
		"var f: prog(); f();":                                 "nil",
		"var f: prog(int): int; output <-= f(3);":             "nil",
		"var f: prog(); begin f();":                           "nil",
		"var f: array of prog(); f = fill(1, f[0]);":          "index",
	} {
		told(t, src, hundred(), "step 0, step 0, probe, in 0 1, out 0", "trap 0 "+trap+", idle, probe, skip, skip")
		child := "begin prog() { " + src + " }(); <-input;"
		told(t, child, hundred(), "step 0, step 0, probe, in 0 1, step 0", "born 0 1, trap 1 "+trap+", probe, in 0 0 1, exit 0")
		reaping(t, child, hundred(), "step 0, step 0, probe, in 0 1, step 0", "born 0 1, trap 1 "+trap+", probe, in 0 0 1, exit 0")
	}
	// Where nothing traps.
	told(t, "val x = (-9223372036854775807 - 1) / -1; output <-= x; output <-= (x % -1);", hundred(), "step 0, out 0, step 0, out 0", fmt.Sprint("out 0 0 ", least, ", out 0 0 0"))
	told(t, "val a = fill(0, 0); output <-= len(a);", hundred(), "step 0, out 0", "out 0 0 0")
	told(t, "var f: prog(); output <-= 3;", hundred(), "step 0, out 0, step 0", "out 0 0 3, exit 0")
}

// P19.1, P19.2: probes, with reaping and without, of dead ones and of none, again and again.
func TestProbes(t *testing.T) {
	alone := "val c = make chan of int; <-c;"
	told(t, alone, hundred(), "probe, step 0, probe, probe, step 0, probe", "probe, probe 0, probe 0, idle, probe 0")
	reaping(t, alone, hundred(), "probe, step 0, probe, probe, step 0, probe", "probe, probe 0, reap 0, probe, idle, probe")
	world := "<-input;"
	told(t, world, hundred(), "step 0, probe, probe, in 0 1, step 0, probe", "probe, probe, in 0 0 1, exit 0, probe")
	reaping(t, world, hundred(), "step 0, probe, probe, in 0 1, step 0, probe", "probe, probe, in 0 0 1, exit 0, probe")
	ring := "{ val a = make chan of int; val b = make chan of int; begin prog() { <-a; b <-= 1; }(); begin prog() { <-b; a <-= 1; }(); } while true { begin prog() { }(); }"
	ahead := "born 0 1, born 0 2, born 0 3, probe, "
	told(t, ring, hundred(), "step 0, step 1, probe, step 1, probe, probe, step 0, step 1, probe", ahead+"probe 1 2, probe 1 2, born 0 4, exit 3, probe 1 2")
	reaping(t, ring, hundred(), "step 0, step 1, probe, step 1, probe, probe, step 0, step 1, probe", ahead+"probe 1 2, reap 1, reap 2, probe, born 0 4, exit 3, probe")
	// The reaped leave room for others.
	l := turned(hundred(), 1, 4)
	told(t, ring, l, "step 0, step 1, step 1, probe, step 0", "born 0 1, born 0 2, born 0 3, probe 1 2, spent 0 live")
	reaping(t, ring, l, "step 0, step 1, step 1, probe, step 0, step 0", "born 0 1, born 0 2, born 0 3, probe 1 2, reap 1, reap 2, born 0 4, born 0 5")
}

// The examples of the whole.
func TestExamplesOfTheWhole(t *testing.T) {
	told(t, "val c = make chan of int; begin prog() { c <-= 7; }(); val x = <-c; output <-= x;", hundred(),
		"step 0, step 0, step 0, step 0, out 0", "born 0 1, meet 1 0 0 0 3, out 0 0 7")
	told(t, "val c = make chan of int; <-c;", hundred(), "step 0, probe", "probe 0")
	told(t, "<-input;", hundred(), "step 0, probe", "probe")
	told(t, "val c = make chan of int; begin prog() { c <-= 1; }(); while true { }", hundred(), "step 0, step 1, probe, step 0, probe", "born 0 1, probe, probe")
	told(t, "{ val c = make chan of int; begin prog() { c <-= 1; }(); } while true { }", hundred(), "step 0, step 1, probe", "born 0 1, probe 1")
	told(t, "val a = [1, 2]; output <-= a[2];", hundred(), "step 0", "trap 0 index")
	refuses(t, "1 + ;", 100, 4, api.ErrParseWant)
	refuses(t, "val x = 1; val f = prog() { output <-= y; };", 100, 39, api.ErrScopeName)
	told(t, "type T = chan of T; type U = chan of chan of U; var a: T; var b: U = a;", hundred(), "step 0", "exit 0")
	told(t, "select { case input <-= 1 { } case <-input { } }", hundred(), "step 0, step 0, in 0 4, step 0", "idle, in 0 1 4, exit 0")
	told(t, "begin prog() { }();", turned(hundred(), 0, 1), "step 0", "spent 0 procs")
}
