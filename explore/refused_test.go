package explore_test

import (
	"strings"
	"testing"

	"squint/api"
	"squint/explore"
	"squint/parse"
	"squint/tree"
)

// wrongSources are sources of which one thing each is wrong.
var wrongSources = []struct {
	src  string
	code api.Errno
}{
	{"val x = 1; @", api.ErrScanByte},
	{"val x = 007;", api.ErrScanNumber},
	{"val " + strings.Repeat("x", 33) + " = 1;", api.ErrScanName},
	{"1 + ;", api.ErrParseWant},
	{"type A = int; type A = bool;", api.ErrKindTwice},
	{"var x: T;", api.ErrKindName},
	{"type A = (int, A);", api.ErrKindOpen},
	{"val x = 1; val x = 2;", api.ErrScopeTwice},
	{"val x = 1; val f = prog() { output <-= y; };", api.ErrScopeName},
	{"val v = 1; v = 2;", api.ErrScopeSet},
	{"var v: int; val f = prog(): int { return v; };", api.ErrScopeCapture},
	{"val x = 1 + true;", api.ErrCheckType},
	{"val f = prog() { }; f(1);", api.ErrCheckMany},
	{"val x = len(1);", api.ErrCheckKind},
	{"val x = prog() { }();", api.ErrCheckNone},
	{"return 1;", api.ErrCheckReturn},
	{"val f = prog(): int { while true { return 1; } };", api.ErrCheckMiss},
	{"begin 1;", api.ErrCheckBegin},
	{"1 + 2;", api.ErrCheckIdle},
	{"var x: int; (x) = 1;", api.ErrCheckPlace},
}

// crowded has more runs than may be from the depth 3 on.
var crowded = "val many = prog() { }; " + strings.Repeat("begin many(); ", 70)

// P20.2: limits out of their range, one by one, alone and beside all that is told later; those at the edges are taken.
func TestLimits(t *testing.T) {
	lows, highs := []int{1, 1, 0, 1, 1, 1, 1}, []int{1048576, 4096, 1048576, 1048576, 1048576, 1048576, 65536}
	for k := range lows {
		for _, n := range []int{lows[k], lows[k] + 1, highs[k] - 1, highs[k]} {
			tells(t, "", turned(vast(), k, n), 2, "exit 0")
		}
		for _, n := range []int{lows[k] - 1, highs[k] + 1, -1, -highs[k], least, greatest} {
			for _, l := range []api.Limits{turned(hundred(), k, n), turned(vast(), k, n)} {
				for _, src := range []string{"", "output <-= 1;", crowded, "1 + ;", "output <-= true;", "@", "\xff", strings.Repeat(" ", api.MaxSource+1)} {
					refuses(t, src, l, 3, api.ErrCrewLimits)
					refuses(t, src, l, 0, api.ErrCrewLimits)
				}
			}
		}
	}
	refuses(t, "", api.Limits{}, 0, api.ErrCrewLimits)
	refuses(t, "", turned(turned(hundred(), 0, 0), 6, 0), 5, api.ErrCrewLimits)
}

// P20.2: a number that may not be, beside all that is told later.
func TestArgumentsFirst(t *testing.T) {
	for _, l := range []api.Limits{hundred(), vast(), {}, turned(hundred(), 6, 0), turned(hundred(), 0, least)} {
		for _, src := range []string{"", crowded, "1 + ;", "output <-= true;", "\xff", strings.Repeat(" ", api.MaxSource+1)} {
			for _, x := range [][2]int{{-1, 1}, {6, 1}, {least, 16}, {greatest, 16}, {3, 0}, {3, 17}, {3, -1}, {0, least}, {5, greatest}, {6, 0}, {-1, 17}, {greatest, greatest}, {least, least}} {
				if lists, e := explore.All([]byte(src), l, x[0], x[1]); e != api.ErrArg || len(lists) > 0 {
					t.Errorf("%s with %v, %d deep, %d workers: %d", shorter(src), l, x[0], x[1], e)
				}
			}
		}
	}
}

// P20.2: each fault of a source, at each depth; ahead of it alone the argument's and the limits' error.
func TestFaults(t *testing.T) {
	for _, wrong := range wrongSources {
		for depth := range 6 {
			refuses(t, wrong.src, hundred(), depth, wrong.code)
			refuses(t, wrong.src, vast(), depth, wrong.code)
		}
		refuses(t, wrong.src, turned(hundred(), 1, 4097), 3, api.ErrCrewLimits)
		// Whatever would come of it: nothing is run.
		refuses(t, wrong.src+" "+crowded, hundred(), 3, wrong.code)
	}
	refuses(t, crowded, hundred(), 3, api.ErrExploreMany)
}

// P20.2: where two things are wrong with a source: what comes first.
func TestWhichFault(t *testing.T) {
	nest := func(n int) api.Limits { return turned(hundred(), 6, n) }
	refuses(t, "1 + ; @", hundred(), 3, api.ErrScanByte)
	refuses(t, "1 + ; @", nest(1), 3, api.ErrScanByte)
	refuses(t, "val x = y; @", hundred(), 3, api.ErrScanByte)
	refuses(t, "val x = y; 1 + ;", hundred(), 3, api.ErrParseWant)
	refuses(t, "val x = y; 1 + ;", nest(1), 3, api.ErrParseWant)
	refuses(t, "val x = y;", nest(2), 3, api.ErrParseDeep)
	refuses(t, "val x = y;", nest(3), 3, api.ErrScopeName)
	refuses(t, "val x = y; var z: T;", hundred(), 3, api.ErrKindName)
	refuses(t, "val x = 1 + true; val z = y;", hundred(), 3, api.ErrScopeName)
	refuses(t, "1; val x = 1 + true;", hundred(), 3, api.ErrCheckIdle)
}

// P20.2: sources that are empty, too long, that end within a token, that are no text.
func TestOddSources(t *testing.T) {
	for _, src := range []string{"", " ", "\n\t\r ", "#", "# a", "# \xff\xfe\x00", "#\n#\n", strings.Repeat(" ", 65536), "#" + strings.Repeat("\xff", 65535), "{ }", "{{}}"} {
		tells(t, src, hundred(), 0, "")
		tells(t, src, hundred(), 1, "exit 0")
		tells(t, src, hundred(), 5, "exit 0")
	}
	for _, wrong := range []struct {
		src  string
		code api.Errno
	}{
		{strings.Repeat(" ", 65537), api.ErrScanLong},
		{strings.Repeat("@", 65537), api.ErrScanLong},
		{"\x00", api.ErrScanByte},
		{"\xff", api.ErrScanByte},
		{"val \xc3\xa9 = 1;", api.ErrScanByte},
		{"output <-= 1; \x80", api.ErrScanByte},
		{"\xef\xbb\xbfoutput <-= 1;", api.ErrScanByte},
		{"val x = true &", api.ErrScanByte},
		{"val x = true |", api.ErrScanByte},
		{"val x = 1" + strings.Repeat("0", 19), api.ErrScanNumber},
		{"val x = 0", api.ErrParseWant},
		{"val x = 00", api.ErrScanNumber},
		{"val x = 1_", api.ErrScanNumber},
		{"val " + strings.Repeat("x", 32), api.ErrParseWant},
		{"val " + strings.Repeat("x", 33), api.ErrScanName},
		{"va", api.ErrParseWant},
		{"output <-", api.ErrParseWant},
		{"output <-= 1", api.ErrParseWant},
		{"{", api.ErrParseWant},
		{"}", api.ErrParseWant},
	} {
		for _, depth := range []int{0, 1, 5} {
			refuses(t, wrong.src, hundred(), depth, wrong.code)
		}
	}
	if lists, e := explore.All(nil, hundred(), 1, 1); e != api.OK || len(lists) != 1 || len(lists[0]) != 1 {
		t.Errorf("nil: %v, %d", lists, e)
	}
}

// highs are sources of which one thing is high, n times.
var highs = []func(n int) string{
	func(n int) string { return "val x = " + strings.Repeat("(", n) + "1" + strings.Repeat(")", n) + ";" },
	func(n int) string { return strings.Repeat("{", n) + strings.Repeat("}", n) },
	func(n int) string { return "val x = " + strings.Repeat("-", n) + "1;" },
	func(n int) string { return "val x = 1" + strings.Repeat(" + 1", n) + ";" },
	func(n int) string { return "var x: " + strings.Repeat("chan of ", n) + "int;" },
	func(n int) string {
		return "if false { } " + strings.Repeat("else if false { } ", n) + "else { }"
	},
}

// P20.2: a source whose height is just the limit is taken; one above is not.
func TestHeight(t *testing.T) {
	for _, high := range highs {
		for _, n := range []int{0, 1, 2, 7, 50, 500} {
			src := high(n)
			nodes, fault := parse.Parse([]byte(src), api.MaxNest)
			if fault.Code != api.OK {
				t.Fatal(shorter(src), fault)
			}
			heights := tree.Height(nodes)
			h := heights[len(heights)-1]
			for _, nest := range []int{1, 2, h - 2, h - 1, h, h + 1, 65536} {
				l := turned(hundred(), 6, max(nest, 1))
				if l.Nest >= h {
					tells(t, src, l, 2, "exit 0")
				} else {
					refuses(t, src, l, 2, api.ErrParseDeep)
				}
			}
		}
	}
}
