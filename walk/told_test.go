package walk_test

import (
	"fmt"
	"regexp"
	"strconv"
	"strings"
	"testing"

	"squint/api"
)

// read is the value of a text: a number, a bool, or a channel.
func read(t *testing.T, s string) api.Value {
	t.Helper()
	if s == "true" || s == "false" {
		return truth(s == "true")
	}
	kind := api.VInt
	if rest, ok := strings.CutPrefix(s, "c"); ok {
		kind, s = api.VChan, rest
	}
	n, err := strconv.Atoi(s)
	if err != nil {
		t.Fatal(err)
	}
	return api.Value{Kind: kind, Num: n}
}

var progNumber = regexp.MustCompile(`\bp[0-9]+<`)

// pointOf is a pause, of whose progs just what they captured is told, and what is held there.
func pointOf(p api.Pause, held []int) string {
	var numbers []string
	for _, n := range held {
		numbers = append(numbers, strconv.Itoa(n))
	}
	at := ""
	if p.Kind != 0 {
		at = progNumber.ReplaceAllString(line(p), "prog<") + " "
	}
	return at + "{" + strings.Join(numbers, " ") + "}"
}

// limits of the runs that told makes.
type limits struct{ cells, depth, pauses int }

// told runs a program, process by process, and tells its pauses. Channels are given from 3 on; fires, parted by blanks, tell which arm happens, and, behind a =, what it receives: held is told then, too.
func told(t *testing.T, src, fires string, most limits) string {
	t.Helper()
	procs := []*process{newProgram(t, parsed(t, src)).first(false)}
	next := strings.Fields(fires)
	chans := api.Out
	var out []string
	for k := 0; k < len(procs); k++ {
		x := procs[k]
		defer x.end()
		if k > 0 {
			out = append(out, "process "+strconv.Itoa(k))
		}
		for range most.pauses {
			p := x.Run(most.cells, most.depth)
			out = append(out, pointOf(p, x.held()))
			if x.over() || p.Kind == api.PWait && len(next) == 0 {
				break
			}
			switch p.Kind {
			case api.PBorn:
				procs = append(procs, x.Child(p.Fn, p.Args))
			case api.PMake:
				chans++
				x.Give(channel(chans))
				out = append(out, pointOf(api.Pause{}, x.held()))
			case api.PWait:
				happens(x, next[0])
				next = next[1:]
				out = append(out, pointOf(api.Pause{}, x.held()))
			}
		}
	}
	if len(next) > 0 {
		t.Fatalf("%s: nobody waits for %v", src, next)
	}
	return strings.Join(out, ", ")
}

// happens fires what is written down: an arm, and, if it receives, a value.
func happens(x *process, what string) {
	x.t.Helper()
	arm, v, receives := strings.Cut(what, "=")
	n, err := strconv.Atoi(arm)
	if err != nil || receives == x.last.Arms[n].Send {
		x.fail("an arm", what, line(x.last))
	}
	in := number(0)
	if receives {
		in = read(x.t, v)
	}
	x.Fire(n, in)
}

// tale is a program, what happens where it waits, and what is told.
type tale struct {
	src, fires string
	want       string
	most       limits // none: as much as is needed
}

func wantTold(t *testing.T, tales []tale) {
	t.Helper()
	for _, k := range tales {
		if k.most == (limits{}) {
			k.most = limits{100, 10, 30}
		}
		if got := told(t, k.src, k.fires, k.most); got != k.want {
			t.Errorf("%s\n%s\ntells %s\nwant  %s", k.src, k.fires, got, k.want)
		}
	}
}

// P12.2 to P12.4: the chapter's plainest programs.
func TestPlain(t *testing.T) {
	wantTold(t, []tale{
		{src: "",
			fires: "", want: "exit {}"},
		{src: "val x = <-input; output <-= x + 1;",
			fires: "0=41 0", want: "wait ?1 {1 2}, {1 2}, wait !2=42 {1 2}, {1 2}, exit {}"},
	})
}

// P12.2 to P12.4: the order in which expressions are done, and what they come to.
func TestOrder(t *testing.T) {
	wantTold(t, []tale{
		{src: "val t = (<-input, <-output, 3); output <-= t.0 - t.1;",
			fires: "0=10 0=4", want: "wait ?1 {1 2}, {1 2}, wait ?2 {1 2}, {1 2}, wait !2=6 +4 {1 2}"},
		{src: "val a = [<-input, <-output]; output <-= a[<-input]; ",
			fires: "0=10 0=4 0=1", want: "wait ?1 {1 2}, {1 2}, wait ?2 {1 2}, {1 2}, wait ?1 +3 {1 2}, {1 2}, wait !2=4 {1 2}"},
		{src: "val a = fill(<-input, <-output); output <-= len(a) * 10 + a[0];",
			fires: "0=3 0=7 0", want: "wait ?1 {1 2}, {1 2}, wait ?2 {1 2}, {1 2}, wait !2=37 +4 {1 2}, {1 2}, exit {}"},
		{src: "val a = fill(<-input, <-output);",
			fires: "0=-1 0=7", want: "wait ?1 {1 2}, {1 2}, wait ?2 {1 2}, {1 2}, trap 3 {}"},
		{src: "val x = <-input - <-output; output <-= -x;",
			fires: "0=10 0=4 0", want: "wait ?1 {1 2}, {1 2}, wait ?2 {1 2}, {1 2}, wait !2=-6 {1 2}, {1 2}, exit {}"},
		{src: "val x = <-input / <-output;",
			fires: "0=1 0=0", want: "wait ?1 {1 2}, {1 2}, wait ?2 {1 2}, {1 2}, trap 1 {}"},
		{src: "val x = <-input % <-output;",
			fires: "0=1 0=0", want: "wait ?1 {1 2}, {1 2}, wait ?2 {1 2}, {1 2}, trap 1 {}"},
		{src: "val c = make chan of chan of int; val x = <-c == <-c; val y = <-c != make chan of int; if x && y { output <-= 1; }",
			fires: "0=c7 0=c7 0=c8", want: "make {1 2}, {1 2 3}, wait ?3 {1 2 3}, {1 2 3 7}, wait ?3 {1 2 3 7}, {1 2 3 7}, wait ?3 {1 2 3}, {1 2 3 8}, make {1 2 3 8}, {1 2 3 4 8}, wait !2=1 {1 2 3}"},
		{src: "val c = make chan of chan of int; (<-c) <-= <-input;",
			fires: "0=c9 0=5", want: "make {1 2}, {1 2 3}, wait ?3 {1 2 3}, {1 2 3 9}, wait ?1 {1 2 3 9}, {1 2 3 9}, wait !9=5 {1 2 3 9}"},
		{src: "val f = prog(a: int, b: int) { output <-= a - b; }; f(<-input, <-output);",
			fires: "0=10 0=4 0", want: "wait ?1 +2 {1 2}, {1 2}, wait ?2 {1 2}, {1 2}, tick {1 2}, wait !2=6 {1 2}, {1 2}, exit {}"},
		{src: "val c = make chan of prog(int): int; val x = (<-c)(<-input);",
			fires: "", want: "make {1 2}, {1 2 3}, wait ?3 {1 2 3}"},
		{src: "var f: prog(int); f(<-input);",
			fires: "0=3", want: "wait ?1 +1 {1 2}, {1 2}, trap 4 {}"},
		{src: "var f: prog(int): int; begin f(<-input);",
			fires: "0=3", want: "wait ?1 +1 {1 2}, {1 2}, trap 4 {}"},
		{src: "val a = [1, 2]; output <-= a[2];",
			fires: "", want: "trap 2 +3 {}"},
		{src: "val x = -<-input; val y = !(x == -3); if y { output <-= x; } else { output <-= 0; }",
			fires: "0=3 0", want: "wait ?1 {1 2}, {1 2}, wait !2=0 {1 2}, {1 2}, exit {}"},
	})
}

// P12.2 to P12.4: && and || that go on, and that stop.
func TestAndOr(t *testing.T) {
	wantTold(t, []tale{
		{src: "val b = make chan of bool; val d = make chan of bool; if <-b && <-d { output <-= 1; } else { output <-= 0; }",
			fires: "0=false", want: "make {1 2}, {1 2 3}, make {1 2 3}, {1 2 3 4}, wait ?3 {1 2 3 4}, {1 2 3 4}, wait !2=0 {1 2 3 4}"},
		{src: "val b = make chan of bool; val d = make chan of bool; if <-b && <-d { output <-= 1; } else { output <-= 0; }",
			fires: "0=true 0=true", want: "make {1 2}, {1 2 3}, make {1 2 3}, {1 2 3 4}, wait ?3 {1 2 3 4}, {1 2 3 4}, wait ?4 {1 2 3 4}, {1 2 3 4}, wait !2=1 {1 2 3 4}"},
		{src: "val b = make chan of bool; val d = make chan of bool; if <-b && <-d { output <-= 1; } else { output <-= 0; }",
			fires: "0=true 0=false", want: "make {1 2}, {1 2 3}, make {1 2 3}, {1 2 3 4}, wait ?3 {1 2 3 4}, {1 2 3 4}, wait ?4 {1 2 3 4}, {1 2 3 4}, wait !2=0 {1 2 3 4}"},
		{src: "val b = make chan of bool; val d = make chan of bool; if <-b || <-d { output <-= 1; } else { output <-= 0; }",
			fires: "0=true", want: "make {1 2}, {1 2 3}, make {1 2 3}, {1 2 3 4}, wait ?3 {1 2 3 4}, {1 2 3 4}, wait !2=1 {1 2 3 4}"},
		{src: "val b = make chan of bool; val d = make chan of bool; if <-b || <-d { output <-= 1; } else { output <-= 0; }",
			fires: "0=false 0=true", want: "make {1 2}, {1 2 3}, make {1 2 3}, {1 2 3 4}, wait ?3 {1 2 3 4}, {1 2 3 4}, wait ?4 {1 2 3 4}, {1 2 3 4}, wait !2=1 {1 2 3 4}"},
		{src: "val b = make chan of bool; val d = make chan of bool; if <-b || <-d { output <-= 1; } else { output <-= 0; }",
			fires: "0=false 0=false", want: "make {1 2}, {1 2 3}, make {1 2 3}, {1 2 3 4}, wait ?3 {1 2 3 4}, {1 2 3 4}, wait ?4 {1 2 3 4}, {1 2 3 4}, wait !2=0 {1 2 3 4}"},
		{src: "val b = make chan of bool; val x = <-b && <-b; if x { output <-= 1; } else { output <-= 0; }",
			fires: "0=false 0", want: "make {1 2}, {1 2 3}, wait ?3 {1 2 3}, {1 2 3}, wait !2=0 {1 2 3}, {1 2 3}, exit {}"},
		{src: "val b = make chan of bool; val x = <-b && <-b; if x { output <-= 1; } else { output <-= 0; }",
			fires: "0=true 0=false 0", want: "make {1 2}, {1 2 3}, wait ?3 {1 2 3}, {1 2 3}, wait ?3 {1 2 3}, {1 2 3}, wait !2=0 {1 2 3}, {1 2 3}, exit {}"},
		{src: "val b = make chan of bool; val x = <-b && <-b; if x { output <-= 1; } else { output <-= 0; }",
			fires: "0=true 0=true 0", want: "make {1 2}, {1 2 3}, wait ?3 {1 2 3}, {1 2 3}, wait ?3 {1 2 3}, {1 2 3}, wait !2=1 {1 2 3}, {1 2 3}, exit {}"},
		{src: "val b = make chan of bool; val x = <-b || <-b; if x { output <-= 1; } else { output <-= 0; }",
			fires: "0=true 0", want: "make {1 2}, {1 2 3}, wait ?3 {1 2 3}, {1 2 3}, wait !2=1 {1 2 3}, {1 2 3}, exit {}"},
		{src: "val b = make chan of bool; val x = <-b || <-b; if x { output <-= 1; } else { output <-= 0; }",
			fires: "0=false 0=true 0", want: "make {1 2}, {1 2 3}, wait ?3 {1 2 3}, {1 2 3}, wait ?3 {1 2 3}, {1 2 3}, wait !2=1 {1 2 3}, {1 2 3}, exit {}"},
		{src: "val b = make chan of bool; val x = <-b || <-b; if x { output <-= 1; } else { output <-= 0; }",
			fires: "0=false 0=false 0", want: "make {1 2}, {1 2 3}, wait ?3 {1 2 3}, {1 2 3}, wait ?3 {1 2 3}, {1 2 3}, wait !2=0 {1 2 3}, {1 2 3}, exit {}"},
	})
}

// P12.2 to P12.4: which way an if goes.
func TestIf(t *testing.T) {
	wantTold(t, []tale{
		{src: "if <-input == 1 { val c = make chan of int; <-input; } output <-= 1;",
			fires: "0=1 0=5 0", want: "wait ?1 {1 2}, {1 2}, make {1 2}, {1 2 3}, wait ?1 {1 2 3}, {1 2 3}, wait !2=1 {1 2}, {1 2}, exit {}"},
		{src: "if <-input == 1 { val c = make chan of int; <-input; } output <-= 1;",
			fires: "0=0 0", want: "wait ?1 {1 2}, {1 2}, wait !2=1 {1 2}, {1 2}, exit {}"},
		{src: "if <-input == 1 { output <-= 1; } else if <-input == 2 { output <-= 2; } else { output <-= 3; } output <-= 4;",
			fires: "0=1 0 0", want: "wait ?1 {1 2}, {1 2}, wait !2=1 {1 2}, {1 2}, wait !2=4 {1 2}, {1 2}, exit {}"},
		{src: "if <-input == 1 { output <-= 1; } else if <-input == 2 { output <-= 2; } else { output <-= 3; } output <-= 4;",
			fires: "0=0 0=2 0 0", want: "wait ?1 {1 2}, {1 2}, wait ?1 {1 2}, {1 2}, wait !2=2 {1 2}, {1 2}, wait !2=4 {1 2}, {1 2}, exit {}"},
		{src: "if <-input == 1 { output <-= 1; } else if <-input == 2 { output <-= 2; } else { output <-= 3; } output <-= 4;",
			fires: "0=0 0=0 0 0", want: "wait ?1 {1 2}, {1 2}, wait ?1 {1 2}, {1 2}, wait !2=3 {1 2}, {1 2}, wait !2=4 {1 2}, {1 2}, exit {}"},
	})
}

// P12.2 to P12.4: loops and their ticks, and blocks whose names end.
func TestLoopsAndBlocks(t *testing.T) {
	wantTold(t, []tale{
		{src: "while <-input > 0 { output <-= 1; }",
			fires: "0=1 0 0=1 0 0=0", want: "wait ?1 {1 2}, {1 2}, wait !2=1 {1 2}, {1 2}, tick {1 2}, wait ?1 {1 2}, {1 2}, wait !2=1 {1 2}, {1 2}, tick {1 2}, wait ?1 {1 2}, {1 2}, exit {}"},
		{src: "while true { val c = make chan of int; }",
			fires: "", want: "make {1 2}, {1 2 3}, tick {1 2}, make {1 2}, {1 2 4}, tick {1 2}, make {1 2}, {1 2 5}", most: limits{100, 10, 5}},
		{src: "var n: int; while n < 2 { n = n + 1; { val c = make chan of int; } val d = make chan of int; } val e = make chan of int; <-e;",
			fires: "0=1", want: "make +1 {1 2}, {1 2 3}, make {1 2}, {1 2 4}, tick {1 2}, make {1 2}, {1 2 5}, make {1 2}, {1 2 6}, tick {1 2}, make {1 2}, {1 2 7}, wait ?7 {1 2 7}, {1 2 7}, exit {}"},
		{src: "while true { }",
			fires: "", want: "tick {1 2}, tick {1 2}, tick {1 2}", most: limits{100, 10, 3}},
		{src: "{ val c = make chan of int; { val c = make chan of int; <-input; } <-input; } <-input; val d = make chan of int; <-input;",
			fires: "0=1 0=2 0=3 0=4", want: "make {1 2}, {1 2 3}, make {1 2 3}, {1 2 3 4}, wait ?1 {1 2 3 4}, {1 2 3 4}, wait ?1 {1 2 3}, {1 2 3}, wait ?1 {1 2}, {1 2}, make {1 2}, {1 2 5}, wait ?1 {1 2 5}, {1 2 5}, exit {}"},
		{src: "val f = prog(): int { while true { val c = make chan of int; if <-input == 1 { return 5; } } return 6; }; output <-= f();",
			fires: "0=0 0=1 0", want: "tick +2 {1 2}, make {1 2}, {1 2 3}, wait ?1 {1 2 3}, {1 2 3}, tick {1 2}, make {1 2}, {1 2 4}, wait ?1 {1 2 4}, {1 2 4}, wait !2=5 {1 2}, {1 2}, exit {}"},
		{src: "val c = make chan of int; { val c = 1; output <-= c; } output <-= 2;",
			fires: "0 0", want: "make {1 2}, {1 2 3}, wait !2=1 {1 2 3}, {1 2 3}, wait !2=2 {1 2 3}, {1 2 3}, exit {}"},
		{src: "var c: chan of int; c = make chan of int; c = make chan of int; <-input;",
			fires: "0=1", want: "make +1 {1 2}, {1 2 3}, make {1 2 3}, {1 2 3 4}, wait ?1 {1 2 4}, {1 2 4}, exit {}"},
	})
}

// P12.2 to P12.4: progs that capture, and progs that call themselves.
func TestProgs(t *testing.T) {
	wantTold(t, []tale{
		{src: "val a = make chan of int; val b = make chan of int; val f = prog() { b <-= 1; a <-= 2; b <-= 3; }; f();",
			fires: "0 0 0", want: "make {1 2}, {1 2 3}, make {1 2 3}, {1 2 3 4}, tick +3 {1 2 3 4}, wait !4=1 {1 2 3 4}, {1 2 3 4}, wait !3=2 {1 2 3 4}, {1 2 3 4}, wait !4=3 {1 2 3 4}, {1 2 3 4}, exit {}"},
		{src: "val a = make chan of int; { val b = make chan of int; begin prog(c: chan of int) { b <-= 1; c <-= 2; }(a); } <-input;",
			fires: "0=1 0 0", want: "make {1 2}, {1 2 3}, make {1 2 3}, {1 2 3 4}, born prog<c4> c3 +2 {1 2 3 4}, wait ?1 {1 2 3}, {1 2 3}, exit {}, process 1, wait !4=1 {3 4}, {3 4}, wait !3=2 {3 4}, {3 4}, exit {}"},
		{src: "val f = prog g(n: int): int { if n == 0 { return 0; } return n + g(n - 1); }; output <-= f(2);",
			fires: "0", want: "tick +1 {1 2}, tick {1 2}, tick {1 2}, wait !2=3 {1 2}, {1 2}, exit {}"},
		{src: "val f = prog g(n: int): int { return g(n); }; val x = f(1);",
			fires: "", want: "tick +1 {1 2}, spent 6 {}", most: limits{9, 2, 9}},
		{src: "val f = prog g(n: int) { val h = prog() { if n > 0 { g(n - 1); } output <-= n; }; h(); }; f(1);",
			fires: "0 0", want: "tick +2 {1 2}, tick +5 {1 2}, tick {1 2}, tick +5 {1 2}, wait !2=0 {1 2}, {1 2}, wait !2=1 {1 2}, {1 2}, exit {}"},
		{src: "val a = 1; val f = prog() { val g = prog(): int { return a; }; output <-= g(); }; f();",
			fires: "0", want: "tick +3 {1 2}, tick +2 {1 2}, wait !2=1 {1 2}, {1 2}, exit {}"},
		{src: "val f = prog() { val g = prog() { output <-= <-input; }; g(); }; f();",
			fires: "0=4 0", want: "tick +3 {1 2}, tick +3 {1 2}, wait ?1 {1 2}, {1 2}, wait !2=4 {1 2}, {1 2}, exit {}"},
		{src: "val a = 1; val b = 2; val f = prog() { val x = b; val y = a; begin prog() { val z = a - b - x; output <-= z; }(); }; f();",
			fires: "0", want: "tick +4 {1 2}, born prog<1 2 2 c2> +5 {1 2}, exit {}, process 1, wait !2=-3 {2}, {2}, exit {}"},
		{src: "begin prog f(n: int) { output <-= n; if n > 1 { begin f(n - 1); } }(2);",
			fires: "0 0", want: "born prog<c2> 2 +2 {1 2}, exit {}, process 1, wait !2=2 {2}, {2}, born prog<c2> 1 {2}, exit {}, process 2, wait !2=1 {2}, {2}, exit {}"},
		{src: "val f = prog f(f: int): int { return f; }; output <-= f(6);",
			fires: "0", want: "tick +1 {1 2}, wait !2=6 {1 2}, {1 2}, exit {}"},
		{src: "val c = make chan of int; val f = prog(d: chan of int): chan of int { val e = make chan of int; return d; }; f(c); val g = f(make chan of int); <-input;",
			fires: "0=1", want: "make {1 2}, {1 2 3}, tick +1 {1 2 3}, make {1 2 3}, {1 2 3 4}, make {1 2 3}, {1 2 3 5}, tick {1 2 3 5}, make {1 2 3 5}, {1 2 3 5 6}, wait ?1 {1 2 3 5}, {1 2 3 5}, exit {}"},
		{src: "val c = make chan of chan of int; <-c; (<-c); <-input;",
			fires: "0=c8 0=c9 0=1", want: "make {1 2}, {1 2 3}, wait ?3 {1 2 3}, {1 2 3 8}, wait ?3 {1 2 3}, {1 2 3 9}, wait ?1 {1 2 3}, {1 2 3}, exit {}"},
	})
}

// P12.2 to P12.4: places that are set whole, and by a path.
func TestPlaces(t *testing.T) {
	wantTold(t, []tale{
		{src: "var t: (int, array of bool); t.0 = 3; t.1 = fill(2, true); t.1[1] = t.0 > 3; if t.1[0] && !t.1[1] { output <-= t.0; }",
			fires: "0", want: "wait !2=3 +19 {1 2}, {1 2}, exit {}"},
		{src: "var a: array of array of int = fill(2, [0, 0]); a[<-input][<-output] = <-input; output <-= a[1][0] * 1000 + a[0][1] * 100 + a[0][0] * 10 + a[1][1];",
			fires: "0=1 0=0 0=7 0", want: "wait ?1 +10 {1 2}, {1 2}, wait ?2 {1 2}, {1 2}, wait ?1 {1 2}, {1 2}, wait !2=7000 +7 {1 2}, {1 2}, exit {}"},
		{src: "var a: array of int; a[<-input] = <-output;",
			fires: "0=0 0=1", want: "wait ?1 +1 {1 2}, {1 2}, wait ?2 {1 2}, {1 2}, trap 2 {}"},
		{src: "var a: array of int = [1, 2]; a[<-input] = <-output;",
			fires: "0=2 0=1", want: "wait ?1 +3 {1 2}, {1 2}, wait ?2 {1 2}, {1 2}, trap 2 {}", most: limits{3, 1, 9}},
		{src: "var a: array of int = [1, 2]; a[1] = 5;",
			fires: "", want: "spent 5 +3 {}", most: limits{5, 1, 9}},
		{src: "var a: array of chan of int = [make chan of int]; a[0] = make chan of int; <-input;",
			fires: "0=1", want: "make {1 2}, {1 2 3}, make +2 {1 2 3}, {1 2 3 4}, wait ?1 +2 {1 2 4}, {1 2 4}, exit {}"},
		{src: "var t: ((int, int), array of (int, int)) = ((1, 2), [(3, 4), (5, 6)]); t.1[1].0 = t.0.1; t.0 = t.1[1]; output <-= t.0.0 * 10 + t.0.1;",
			fires: "0", want: "wait !2=26 +49 {1 2}, {1 2}, exit {}"},
		{src: "var x: int; var y: int; x = y; y = 3; output <-= x * 10 + y;",
			fires: "0", want: "wait !2=3 +2 {1 2}, {1 2}, exit {}"},
		{src: "var x: int = <-input; x = <-input; output <-= x;",
			fires: "0=1 0=2 0", want: "wait ?1 {1 2}, {1 2}, wait ?1 {1 2}, {1 2}, wait !2=2 {1 2}, {1 2}, exit {}"},
		{src: "var t: (int, (bool, chan of int), array of int, prog(): int); val u = (t.0, t.1, t.2); val c = make chan of (int, (bool, chan of int), array of int); c <-= u;",
			fires: "0", want: "make +13 {1 2}, {1 2 3}, wait !3=(0 (false c0) []) {1 2 3}, {1 2 3}, exit {}"},
	})
}

// P12.2 to P12.4: selects of no arm, of one and of several.
func TestSelects(t *testing.T) {
	wantTold(t, []tale{
		{src: "select { } output <-= 1;",
			fires: "", want: "wait {1 2}"},
		{src: "select { case <-input { } } output <-= 1;",
			fires: "0=5 0", want: "wait ?1 {1 2}, {1 2}, wait !2=1 {1 2}, {1 2}, exit {}"},
		{src: "select { case x = <-input { output <-= x; } } output <-= 1;",
			fires: "0=5 0 0", want: "wait ?1 {1 2}, {1 2}, wait !2=5 {1 2}, {1 2}, wait !2=1 {1 2}, {1 2}, exit {}"},
		{src: "select { case output <-= <-input { output <-= 2; } }",
			fires: "0=5 0 0", want: "wait ?1 {1 2}, {1 2}, wait !2=5 {1 2}, {1 2}, wait !2=2 {1 2}, {1 2}, exit {}"},
		{src: "val c = make chan of chan of int; select { case x = <-c { <-input; } case output <-= 1 { val y = make chan of int; <-input; } case <-c { <-input; } } <-input;",
			fires: "0=c8 0=1 0=1", want: "make {1 2}, {1 2 3}, wait ?3 !2=1 ?3 {1 2 3}, {1 2 3 8}, wait ?1 {1 2 3 8}, {1 2 3 8}, wait ?1 {1 2 3}, {1 2 3}, exit {}"},
		{src: "val c = make chan of chan of int; select { case x = <-c { <-input; } case output <-= 1 { val y = make chan of int; <-input; } case <-c { <-input; } } <-input;",
			fires: "1 0=1 0=1", want: "make {1 2}, {1 2 3}, wait ?3 !2=1 ?3 {1 2 3}, {1 2 3}, make {1 2 3}, {1 2 3 4}, wait ?1 {1 2 3 4}, {1 2 3 4}, wait ?1 {1 2 3}, {1 2 3}, exit {}"},
		{src: "val c = make chan of chan of int; select { case x = <-c { <-input; } case output <-= 1 { val y = make chan of int; <-input; } case <-c { <-input; } } <-input;",
			fires: "2=c8 0=1 0=1", want: "make {1 2}, {1 2 3}, wait ?3 !2=1 ?3 {1 2 3}, {1 2 3 8}, wait ?1 {1 2 3}, {1 2 3}, wait ?1 {1 2 3}, {1 2 3}, exit {}"},
		{src: "val c = make chan of chan of int; select { case (<-c) <-= <-input { } case <-(<-c) { } }",
			fires: "0=c8 0=1 0=c9 1=3", want: "make {1 2}, {1 2 3}, wait ?3 {1 2 3}, {1 2 3 8}, wait ?1 {1 2 3 8}, {1 2 3 8}, wait ?3 {1 2 3 8}, {1 2 3 8 9}, wait !8=1 ?9 {1 2 3 8 9}, {1 2 3}, exit {}"},
		{src: "val f = prog(): int { select { case x = <-input { return x; } case output <-= 3 { return 4; } } }; output <-= f();",
			fires: "0=5 0", want: "tick +3 {1 2}, wait ?1 !2=3 {1 2}, {1 2}, wait !2=5 {1 2}, {1 2}, exit {}"},
		{src: "val f = prog(): int { select { case x = <-input { return x; } case output <-= 3 { return 4; } } }; output <-= f();",
			fires: "1 0", want: "tick +3 {1 2}, wait ?1 !2=3 {1 2}, {1 2}, wait !2=4 {1 2}, {1 2}, exit {}"},
		{src: "select { case input <-= 1 { } case <-input { } }",
			fires: "1=3", want: "wait !1=1 ?1 {1 2}, {1 2}, exit {}"},
	})
}

// P12.2 to P12.4: results, and what is dropped.
func TestResults(t *testing.T) {
	wantTold(t, []tale{
		{src: "val f = prog(): chan of int { return make chan of int; }; f(); <-input; (f()); <-input;",
			fires: "0=1 0=2", want: "tick +1 {1 2}, make {1 2}, {1 2 3}, wait ?1 {1 2}, {1 2}, tick {1 2}, make {1 2}, {1 2 4}, wait ?1 {1 2}, {1 2}, exit {}"},
		{src: "val f = prog(n: int): int { if n > 0 { return n; } else { return -n; } }; output <-= f(-3) * f(4);",
			fires: "0", want: "tick +1 {1 2}, tick {1 2}, wait !2=12 {1 2}, {1 2}, exit {}"},
		{src: "val f = prog() { if <-input == 1 { return; } output <-= 1; }; f(); f(); return; output <-= 5;",
			fires: "0=1 0=0 0", want: "tick +3 {1 2}, wait ?1 {1 2}, {1 2}, tick {1 2}, wait ?1 {1 2}, {1 2}, wait !2=1 {1 2}, {1 2}, exit {}"},
		{src: "val f = prog(): int { { { return 1; } } }; output <-= f();",
			fires: "0", want: "tick +1 {1 2}, wait !2=1 {1 2}, {1 2}, exit {}"},
		{src: "begin prog(): int { return 1; }(); begin ((prog(a: int, b: chan of int) { b <-= a; })(1, output));",
			fires: "0", want: "born prog<> +1 {1 2}, born prog<> 1 c2 +1 {1 2}, exit {}, process 1, exit {}, process 2, wait !2=1 {2}, {2}, exit {}"},
	})
}

// P12.2 to P12.4: the cells that are used.
func TestCells(t *testing.T) {
	wantTold(t, []tale{
		{src: "val t = (1, (2, 3)); var u: (int, int);",
			fires: "", want: "exit +11 {}"},
		{src: "val t = (1, (2, 3)); var u: (int, int);",
			fires: "", want: "spent 5 +8 {}", most: limits{10, 9, 9}},
		{src: "val a = fill(3, (1, 2)); val f = prog() { val b = a; }; f();",
			fires: "", want: "tick +24 {1 2}, exit {}"},
		{src: "val a = fill(3, (1, 2)); val f = prog() { val b = a; }; f();",
			fires: "", want: "spent 5 +13 {}", most: limits{23, 9, 9}},
		{src: "var f: prog(int); var c: chan of int; var a: array of int; var b: bool; var t: ((int, bool), chan of int);",
			fires: "", want: "exit +9 {}"},
	})
}

// P12.2 to P12.4: what is held (L9) while other things are worked out, and when it is let go.
func TestHeld(t *testing.T) {
	wantTold(t, []tale{
		{src: "val c = make chan of chan of int; val t = (<-c, <-input, <-c); <-input;",
			fires: "0=c7 0=1 0=c8 0=2", want: "make {1 2}, {1 2 3}, wait ?3 {1 2 3}, {1 2 3 7}, wait ?1 {1 2 3 7}, {1 2 3 7}, wait ?3 {1 2 3 7}, {1 2 3 7 8}, wait ?1 +4 {1 2 3 7 8}, {1 2 3 7 8}, exit {}"},
		{src: "val c = make chan of chan of int; val d = [<-c][<-input]; <-input;",
			fires: "0=c7 0=0 0=1", want: "make {1 2}, {1 2 3}, wait ?3 {1 2 3}, {1 2 3 7}, wait ?1 +2 {1 2 3 7}, {1 2 3 7}, wait ?1 {1 2 3 7}, {1 2 3 7}, exit {}"},
		{src: "val c = make chan of chan of int; val n = len([<-c, <-c]) + (1, <-c).0 * <-input; <-input;",
			fires: "0=c7 0=c8 0=c9 0=1 0=2", want: "make {1 2}, {1 2 3}, wait ?3 {1 2 3}, {1 2 3 7}, wait ?3 {1 2 3 7}, {1 2 3 7 8}, wait ?3 +3 {1 2 3}, {1 2 3 9}, wait ?1 +3 {1 2 3}, {1 2 3}, wait ?1 {1 2 3}, {1 2 3}, exit {}"},
		{src: "val c = make chan of chan of int; val f = prog(a: chan of int, n: int) { <-input; }; f(<-c, <-input); <-input;",
			fires: "0=c7 0=1 0=2 0=3", want: "make {1 2}, {1 2 3}, wait ?3 +2 {1 2 3}, {1 2 3 7}, wait ?1 {1 2 3 7}, {1 2 3 7}, tick {1 2 3 7}, wait ?1 {1 2 3 7}, {1 2 3 7}, wait ?1 {1 2 3}, {1 2 3}, exit {}"},
		{src: "val c = make chan of chan of int; val h = prog(d: chan of int): prog(int) { return prog(n: int) { d <-= n; }; }; h(<-c)(<-input); <-input;",
			fires: "0=c7 0=1 0 0=2", want: "make {1 2}, {1 2 3}, wait ?3 +1 {1 2 3}, {1 2 3 7}, tick {1 2 3 7}, wait ?1 +2 {1 2 3 7}, {1 2 3 7}, tick {1 2 3 7}, wait !7=1 {1 2 3 7}, {1 2 3 7}, wait ?1 {1 2 3}, {1 2 3}, exit {}"},
		{src: "val c = make chan of chan of int; c <-= make chan of int; <-input;",
			fires: "0 0=1", want: "make {1 2}, {1 2 3}, make {1 2 3}, {1 2 3 4}, wait !3=c4 {1 2 3 4}, {1 2 3}, wait ?1 {1 2 3}, {1 2 3}, exit {}"},
		{src: "val c = make chan of chan of int; select { case c <-= make chan of int { } case d = <-c { <-input; } } <-input;",
			fires: "1=c9 0=1 0=2", want: "make {1 2}, {1 2 3}, make {1 2 3}, {1 2 3 4}, wait !3=c4 ?3 {1 2 3 4}, {1 2 3 9}, wait ?1 {1 2 3 9}, {1 2 3 9}, wait ?1 {1 2 3}, {1 2 3}, exit {}"},
		{src: "val c = make chan of chan of int; var a: array of chan of int = [<-c, <-c]; a[<-input] = <-c; a = [<-c]; <-input;",
			fires: "0=c7 0=c8 0=1 0=c9 0=c10 0=2", want: "make {1 2}, {1 2 3}, wait ?3 {1 2 3}, {1 2 3 7}, wait ?3 {1 2 3 7}, {1 2 3 7 8}, wait ?1 +3 {1 2 3 7 8}, {1 2 3 7 8}, wait ?3 {1 2 3 7 8}, {1 2 3 7 8 9}, wait ?3 +3 {1 2 3 7 9}, {1 2 3 7 9 10}, wait ?1 +2 {1 2 3 10}, {1 2 3 10}, exit {}"},
		{src: "val c = make chan of chan of int; while (<-c) == (<-c) { val d = <-c; } <-input;",
			fires: "0=c7 0=c7 0=c8 0=c9 0=c10 0=1", want: "make {1 2}, {1 2 3}, wait ?3 {1 2 3}, {1 2 3 7}, wait ?3 {1 2 3 7}, {1 2 3 7}, wait ?3 {1 2 3}, {1 2 3 8}, tick {1 2 3}, wait ?3 {1 2 3}, {1 2 3 9}, wait ?3 {1 2 3 9}, {1 2 3 9 10}, wait ?1 {1 2 3}, {1 2 3}, exit {}"},
	})
}

// P12.2 to P12.4: what operators come to.
func TestOperators(t *testing.T) {
	truths := map[bool]int{true: 1}
	for _, a := range []int{-7, -1, 0, 2, 3} {
		for _, b := range []int{-7, -2, 1, 3} {
			for op, want := range map[string]int{"+": a + b, "-": a - b, "*": a * b, "/": a / b, "%": a % b} {
				wantTold(t, []tale{{src: "output <-= <-input " + op + " <-input;", fires: fmt.Sprintf("0=%d 0=%d", a, b), want: fmt.Sprintf("wait ?1 {1 2}, {1 2}, wait ?1 {1 2}, {1 2}, wait !2=%d {1 2}", want)}})
			}
			for op, is := range map[string]bool{"==": a == b, "!=": a != b, "<": a < b, "<=": a <= b, ">": a > b, ">=": a >= b} {
				wantTold(t, []tale{{src: "if <-input " + op + " <-input { output <-= 1; } else { output <-= 0; }", fires: fmt.Sprintf("0=%d 0=%d", a, b), want: fmt.Sprintf("wait ?1 {1 2}, {1 2}, wait ?1 {1 2}, {1 2}, wait !2=%d {1 2}", truths[is])}})
			}
		}
	}
}
