package host_test

import (
	"fmt"
	"strings"
	"testing"

	"squint/api"
	"squint/parse"
	"squint/tree"
)

// wrongSources are sources of which one thing each is wrong, with the fault.
var wrongSources = []struct {
	src  string
	at   int
	code api.Errno
}{
	{"val x = 1; @", 11, api.ErrScanByte},
	{"val x = 007;", 8, api.ErrScanNumber},
	{"1 + ;", 4, api.ErrParseWant},
	{"type A = int; type A = bool;", 14, api.ErrKindTwice},
	{"var x: T;", 7, api.ErrKindName},
	{"type A = (int, A);", 0, api.ErrKindOpen},
	{"val x = 1; val x = 2;", 11, api.ErrScopeTwice},
	{"val x = 1; val f = prog() { output <-= y; };", 39, api.ErrScopeName},
	{"val v = 1; v = 2;", 11, api.ErrScopeSet},
	{"var v: int; val f = prog(): int { return v; };", 41, api.ErrScopeCapture},
	{"val x = 1 + true;", 10, api.ErrCheckType},
	{"val f = prog() { }; f(1);", 21, api.ErrCheckMany},
	{"val x = len(1);", 8, api.ErrCheckKind},
	{"val x = prog() { }();", 0, api.ErrCheckNone},
	{"return 1;", 0, api.ErrCheckReturn},
	{"val f = prog(): int { while true { return 1; } };", 8, api.ErrCheckMiss},
	{"begin 1;", 0, api.ErrCheckBegin},
	{"1 + 2;", 0, api.ErrCheckIdle},
	{"var x: int; (x) = 1;", 16, api.ErrCheckPlace},
}

const rightSource = "output <-= 1 + 2;"

// P19.1, P19.2: limits out of their range are refused, one by one, whatever else is wrong; those within are not.
func TestLimits(t *testing.T) {
	lows, highs := []int{1, 1, 0, 1, 1, 1, 1}, []int{1048576, 4096, 1048576, 1048576, 1048576, 1048576, 65536}
	for k := range lows {
		for _, n := range []int{lows[k], highs[k]} {
			hold(t, "", api.Script{Limits: turned(vast(), k, n), Picks: picks("step 0, step 0")}, result(t, "exit 0, idle"), api.OK)
		}
		for _, n := range []int{lows[k] - 1, highs[k] + 1, -1, -highs[k], least, greatest} {
			for _, l := range []api.Limits{hundred(), vast()} {
				holdRefused(t, turned(l, k, n))
			}
		}
	}
	holdRefused(t, api.Limits{})
	holdRefused(t, turned(turned(hundred(), 0, 0), 6, 0))
}

func holdRefused(t *testing.T, l api.Limits) {
	t.Helper()
	for _, src := range []string{"", rightSource, "1 + ;", "output <-= true;", "@"} {
		for _, many := range []int{0, 1, api.MaxPicks, api.MaxPicks + 1} {
			hold(t, src, api.Script{Limits: l, Picks: make([]api.Pick, many)}, api.Result{}, api.ErrCrewLimits)
		}
	}
}

// P19.1, P19.2: MaxPicks picks and one more.
func TestMany(t *testing.T) {
	skips := api.Script{Limits: hundred(), Picks: make([]api.Pick, 4096)}
	hold(t, rightSource, skips, result(t, times(4096, "skip")), api.OK)
	steps := api.Script{Limits: hundred(), Reap: true, Picks: picks(times(4096, "step 0"))}
	hold(t, rightSource, steps, result(t, times(4095, "idle")), api.OK)
	for _, s := range []api.Script{skips, steps} {
		for _, more := range []int{1, 2, 5000} {
			x := s
			x.Picks = append(x.Picks[:4096:4096], make([]api.Pick, more)...)
			hold(t, rightSource, x, api.Result{}, api.ErrScriptMany)
			hold(t, "", x, api.Result{}, api.ErrScriptMany)
			hold(t, strings.Repeat(" ", api.MaxSource+1), x, api.Result{}, api.ErrScriptMany)
			for _, wrong := range wrongSources {
				hold(t, wrong.src, s, faulty(wrong.at, wrong.code), api.OK)
				hold(t, wrong.src, x, api.Result{}, api.ErrScriptMany)
			}
		}
	}
}

// P19.1, P19.2, P19.5: each fault of a source, at its place.
func TestFaults(t *testing.T) {
	for _, wrong := range wrongSources {
		refuses(t, wrong.src, 100, wrong.at, wrong.code)
		refuses(t, wrong.src, 65536, wrong.at, wrong.code)
		refuses(t, "# a remark\n "+wrong.src, 100, wrong.at+len("# a remark\n "), wrong.code)
	}
}

// P19.1, P19.2, P19.5: sources that are empty, too long, that end within a token, that are no text.
func TestOddSources(t *testing.T) {
	for _, src := range []string{"", " ", "\n\t\r ", "#", "# a", "# \xff\xfe\x00", "#\n#\n", strings.Repeat(" ", 65536), "#" + strings.Repeat("\xff", 65535), "{ }", "{{}}"} {
		told(t, src, hundred(), "step 0, step 0, probe", "exit 0, idle, probe")
	}
	for _, wrong := range []struct {
		src  string
		at   int
		code api.Errno
	}{
		{strings.Repeat(" ", 65537), 65536, api.ErrScanLong},
		{strings.Repeat("@", 65537), 65536, api.ErrScanLong},
		{rightSource + strings.Repeat("\n", 65536), 65536, api.ErrScanLong},
		{"\x00", 0, api.ErrScanByte},
		{"\xff", 0, api.ErrScanByte},
		{"val \xc3\xa9 = 1;", 4, api.ErrScanByte},
		{"output <-= 1; \x80", 14, api.ErrScanByte},
		{"\xef\xbb\xbfoutput <-= 1;", 0, api.ErrScanByte},
		{"output <-= 1;\x00", 13, api.ErrScanByte},
		{"val x = true &", 13, api.ErrScanByte},
		{"val x = true |", 13, api.ErrScanByte},
		{"val x = 1" + strings.Repeat("0", 18) + "0", 8, api.ErrScanNumber},
		{"val x = 0", 9, api.ErrParseWant},
		{"val x = 00", 8, api.ErrScanNumber},
		{"val x = 1_", 8, api.ErrScanNumber},
		{"val " + strings.Repeat("x", 32), 36, api.ErrParseWant},
		{"val " + strings.Repeat("x", 33), 4, api.ErrScanName},
		{"va", 2, api.ErrParseWant},
		{"output <-", 7, api.ErrParseWant},
		{"output <-=", 10, api.ErrParseWant},
		{"output <-= 1", 12, api.ErrParseWant},
		{"output <-= 1 ", 13, api.ErrParseWant},
		{"output <-= 1 # ;", 16, api.ErrParseWant},
		{"{", 1, api.ErrParseWant},
		{"}", 0, api.ErrParseWant},
	} {
		refuses(t, wrong.src, 100, wrong.at, wrong.code)
	}
	for _, f := range faces {
		if got, want := show(f.run(nil, api.Script{Limits: hundred(), Picks: picks("step 0")})), show(result(t, "exit 0"), api.OK); got != want {
			t.Errorf("%s of nil: %s, not %s", f.name, got, want)
		}
	}
}

// P19.1, P19.2: where two things are wrong with a source: what comes first.
func TestWhichFault(t *testing.T) {
	refuses(t, "1 + ; @", 100, 6, api.ErrScanByte)
	refuses(t, "1 + ; @", 1, 6, api.ErrScanByte)
	refuses(t, "val x = y; @", 100, 11, api.ErrScanByte)
	refuses(t, "1 + ;", 1, 4, api.ErrParseWant)
	refuses(t, "val x = y; 1 + ;", 100, 15, api.ErrParseWant)
	refuses(t, "val x = y; 1 + ;", 1, 15, api.ErrParseWant)
	refuses(t, "val x = y;", 1, 0, api.ErrParseDeep)
	refuses(t, "val x = y;", 2, 0, api.ErrParseDeep)
	refuses(t, "val x = y;", 3, 8, api.ErrScopeName)
	refuses(t, "val x = y + 1;", 2, 0, api.ErrParseDeep)
	refuses(t, "val x = y + 1;", 1, 10, api.ErrParseDeep)
	refuses(t, "val x = y; var z: T;", 100, 18, api.ErrKindName)
	refuses(t, "val x = 1 + true; val z = y;", 100, 26, api.ErrScopeName)
	refuses(t, "val x = 1 + true; type T = int;", 100, 18, api.ErrParseWant)
	refuses(t, "type T = T; val x = 1 + true;", 100, 0, api.ErrKindOpen)
	refuses(t, "1; val x = 1 + true;", 100, 0, api.ErrCheckIdle)
}

// highs are sources of which one thing is high, n times, and what they tell by the picks below. How high they are, parse tells.
var highs = []struct {
	src   func(n int) string
	tells func(n int) string
}{
	{func(n int) string {
		return "output <-= " + strings.Repeat("(", n) + "1" + strings.Repeat(")", n) + ";"
	}, func(int) string { return "out 0 0 1, exit 0, idle" }},
	{func(n int) string { return strings.Repeat("{", n) + strings.Repeat("}", n) }, func(int) string { return "exit 0, skip, idle, idle" }},
	{func(n int) string { return "output <-= " + strings.Repeat("-", n) + "1;" }, func(n int) string { return fmt.Sprintf("out 0 0 %d, exit 0, idle", 1-n%2*2) }},
	{func(n int) string { return "output <-= 1" + strings.Repeat(" + 1", n) + ";" }, func(n int) string { return fmt.Sprintf("out 0 0 %d, exit 0, idle", n+1) }},
	{func(n int) string {
		return "if false { } " + strings.Repeat("else if false { } ", n) + "else { output <-= 5; }"
	}, func(int) string { return "out 0 0 5, exit 0, idle" }},
	{func(n int) string { return "var x: " + strings.Repeat("chan of ", n) + "int; output <-= 4;" }, func(int) string { return "out 0 0 4, exit 0, idle" }},
	{func(n int) string {
		return "val x = " + strings.Repeat("prog() { val y = ", n) + "1" + strings.Repeat("; }", n) + "; output <-= 6;"
	}, func(int) string { return "out 0 0 6, exit 0, idle" }},
}

const highPicks = "step 0, out 0, step 0, step 0"

func height(t *testing.T, src string) int {
	t.Helper()
	nodes, fault := parse.Parse([]byte(src), api.MaxNest)
	if fault.Code != api.OK {
		t.Fatal(shorter(src), fault)
	}
	all := tree.Height(nodes)
	return all[len(all)-1]
}

// holdHigh: a source that is so high is taken from that nest on.
func holdHigh(t *testing.T, src string, l api.Limits, tells string) {
	t.Helper()
	h := height(t, src)
	for _, nest := range []int{1, 2, h - 2, h - 1, h, h + 1, 65536} {
		l.Nest = max(1, nest)
		if l.Nest >= h {
			told(t, src, l, highPicks, tells)
			continue
		}
		_, fault := parse.Parse([]byte(src), l.Nest)
		if fault.Code != api.ErrParseDeep {
			t.Fatalf("%d high: parse's fault with %d: %v", h, l.Nest, fault)
		}
		hold(t, src, api.Script{Limits: l, Picks: picks(highPicks)}, faulty(fault.At, fault.Code), api.OK)
	}
}

// P19.1, P19.2, P19.5: a source as high as the limit is taken; a higher one is not.
func TestHeight(t *testing.T) {
	for _, high := range highs {
		for _, n := range []int{0, 1, 2, 3, 10, 50} {
			holdHigh(t, high.src(n), hundred(), high.tells(n))
		}
	}
	told(t, "", turned(hundred(), 6, 1), "step 0", "exit 0")
}

// P19.1, P19.2: sources that are as high as they can be.
func TestHighest(t *testing.T) {
	for _, high := range highs {
		n := 0
		for step := api.MaxSource; step > 0; step /= 2 {
			if len(high.src(n+step)) <= api.MaxSource {
				n += step
			}
		}
		holdHigh(t, high.src(n), vast(), high.tells(n))
	}
}

// P19.5: a fault hangs on the source and Nest alone.
func TestFaultAlone(t *testing.T) {
	scripts := []api.Script{{}, {Reap: true}, {Picks: picks("step 0")}, {Picks: picks("probe, probe, kind -1 3 4, in 0 5, out 1, step 7"), Reap: true}, {Picks: make([]api.Pick, 4096)}}
	limits := []api.Limits{hundred(), vast(), {Procs: 1, Live: 1, Ticks: 1, Cells: 1, Depth: 1}}
	sources := []string{rightSource, "", "val x = ((1));", "val x = (y);", "var v: int; v = (1 + (2 + (3 + true)));"}
	for _, wrong := range wrongSources {
		sources = append(sources, wrong.src)
	}
	for _, src := range sources {
		for _, nest := range []int{1, 2, 3, 4, 5, 6, 7, 9, 100, 65536} {
			want := api.Fault{}
			for k, l := range limits {
				l.Nest = nest
				for j, s := range scripts {
					s.Limits = l
					for _, f := range faces {
						r, e := f.run([]byte(src), s)
						if k == 0 && j == 0 && f.name == "Run" {
							want = r.Fault
						}
						if e != api.OK || r.Fault != want || want.Code != api.OK && (len(r.Events) > 0 || r.Spent) {
							t.Errorf("%s of %s by %v: %s, not the fault %v", f.name, src, shorter(fmt.Sprint(s)), show(r, e), want)
						}
					}
				}
			}
		}
	}
}
