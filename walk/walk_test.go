package walk_test

import (
	"math"
	"math/rand/v2"
	"reflect"
	"slices"
	"strconv"
	"strings"
	"testing"

	"squint/api"
	"squint/check"
	"squint/walk"
)

// reader reads values as text writes them.
type reader struct{ left string }

func (r *reader) number() int {
	end := 0
	for end < len(r.left) && strings.IndexByte("-0123456789", r.left[end]) >= 0 {
		end++
	}
	n, _ := strconv.Atoi(r.left[:end])
	r.left = r.left[end:]
	return n
}

func (r *reader) takes(head string) bool {
	rest, ok := strings.CutPrefix(r.left, head)
	r.left = rest
	return ok
}

func (r *reader) list(end string) []api.Value {
	var out []api.Value
	for !r.takes(end) {
		out = append(out, r.value())
		r.takes(" ")
	}
	return out
}

func (r *reader) value() api.Value {
	switch {
	case r.takes("none"):
		return api.Value{}
	case r.takes("true"):
		return truth(true)
	case r.takes("false"):
		return truth(false)
	case r.takes("c"):
		return channel(r.number())
	case r.takes("["):
		return array(r.list("]")...)
	case r.takes("("):
		return tuple(r.list(")")...)
	case r.takes("p"):
		n := r.number()
		r.takes("<")
		return prog(n, r.list(">")...)
	case r.takes("odd"):
		kind := r.number()
		r.takes(":")
		n := r.number()
		r.takes("<")
		return api.Value{Kind: kind, Num: n, List: r.list(">")}
	}
	return number(r.number())
}

// story does steps, parted by semicolons, with the first process of a program, and tells what is answered:
// run (with 100 cells, 10 deep) or run CELLS DEPTH, held, give VALUE, fire ARM VALUE, child PROG ARGUMENTS (a tuple: the steps behind are of the new one; "born" is the prog and the arguments of the last birth), clone (likewise), back (the steps behind are of the one of which the last one was made).
func story(t *testing.T, src, steps string) string {
	t.Helper()
	var out []string
	all := []*process{newProgram(t, parsed(t, src)).first(false)}
	for _, step := range strings.Split(steps, ";") {
		x := all[len(all)-1]
		r := &reader{strings.TrimSpace(step)}
		switch {
		case r.takes("run"):
			cells, depth := 100, 10
			if r.takes(" ") {
				cells = r.number()
				r.takes(" ")
				depth = r.number()
			}
			out = append(out, line(x.Run(cells, depth)))
		case r.takes("held"):
			out = append(out, strings.Trim(strings.ReplaceAll(line(api.Pause{Kind: api.PExit, Args: numbersOf(x.held())}), "exit", "held"), " "))
		case r.takes("give "):
			x.Give(r.value())
		case r.takes("fire "):
			arm := r.number()
			r.takes(" ")
			x.Fire(arm, r.value())
		case r.takes("child born"):
			all = append(all, x.Child(x.last.Fn, x.last.Args))
		case r.takes("child "):
			fn := r.value()
			r.takes(" ")
			all = append(all, x.Child(fn, r.value().List))
		case r.takes("clone"):
			all = append(all, x.Clone())
		case r.takes("back"):
			x.end()
			all = all[:len(all)-1]
		default:
			t.Fatalf("no step: %q", step)
		}
		if r.left != "" {
			t.Fatalf("what is left of a step: %q", step)
		}
	}
	for _, x := range all {
		x.end()
	}
	return strings.Join(out, "; ")
}

func numbersOf(list []int) []api.Value {
	var out []api.Value
	for _, n := range list {
		out = append(out, number(n))
	}
	return out
}

// stories are sources, steps and what they answer.
type stories [][3]string

func (all stories) try(t *testing.T) {
	t.Helper()
	for _, x := range all {
		if got := story(t, x[0], x[1]); got != x[2] {
			t.Errorf("%s\n%s:\n%s, not\n%s", x[0], x[1], got, x[2])
		}
	}
}

// TestExamples: the chapter's.
func TestExamples(t *testing.T) {
	stories{
		{"", "run; run; held", "exit; exit; held"},
		{"<-input;", "held; run; run; fire 1 5; fire 0 5; run", "held 1 2; wait ?1; wait ?1; exit"},
		{"val t = (1, (2, 3)); var u: (int, int);", "run", "exit +11"},
		{"val t = (1, (2, 3)); var u: (int, int);", "clone; run 10 9; back; run 11 9", "spent 5 +8; exit +11"},
		{"val f = prog(c: chan of int) { }; f(make chan of int);", "run; give c9; held; run; held; run", "make +1; held 1 2 9; tick; held 1 2 9; exit"},
		{"while true { val c = make chan of int; }", "run; give c9; held; run; held", "make; held 1 2 9; tick; held 1 2"},
		{"val f = prog g(n: int): int { return g(n); }; val x = f(1);", "run 9 2; run 9 2", "tick +1; spent 6"},
		{"begin prog(a: int) { val x = a / 0; }(7);", "run; child born; run; back; run", "born p8<> 7 +1; trap 1; exit"},
	}.try(t)
	wantRefused(t, parsed(t, "begin prog(a: int) { a / 0; }(7);"), api.Fault{At: 21, Code: api.ErrCheckIdle})
}

func wantRefused(t *testing.T, l []api.Node, want api.Fault) {
	t.Helper()
	x, got := walk.New(l)
	if x != nil || got != want {
		t.Errorf("%s: %v, %v, not nil and %v", shown(l), x != nil, got, want)
	}
}

// TestRefused: P12.1: check's fault, and no process.
func TestRefused(t *testing.T) {
	for _, x := range []struct {
		src  string
		want api.Fault
	}{
		{"type A = int; type A = int;", api.Fault{At: 14, Code: api.ErrKindTwice}},
		{"var x: T;", api.Fault{At: 7, Code: api.ErrKindName}},
		{"type A = (A, int);", api.Fault{At: 0, Code: api.ErrKindOpen}},
		{"val x = 1; val x = 2;", api.Fault{At: 11, Code: api.ErrScopeTwice}},
		{"val x = x;", api.Fault{At: 8, Code: api.ErrScopeName}},
		{"val x = 1; x = 2;", api.Fault{At: 11, Code: api.ErrScopeSet}},
		{"var x: int; val f = prog() { output <-= x; };", api.Fault{At: 40, Code: api.ErrScopeCapture}},
		{"val x = 1 + true;", api.Fault{At: 10, Code: api.ErrCheckType}},
		{"val x = (1, 2).2;", api.Fault{At: 14, Code: api.ErrCheckMany}},
		{"val x = 1[0];", api.Fault{At: 9, Code: api.ErrCheckKind}},
		{"val x = prog() { }();", api.Fault{At: 0, Code: api.ErrCheckNone}},
		{"return 1;", api.Fault{At: 0, Code: api.ErrCheckReturn}},
		{"val f = prog(): int { };", api.Fault{At: 8, Code: api.ErrCheckMiss}},
		{"begin 1;", api.Fault{At: 0, Code: api.ErrCheckBegin}},
		{"1;", api.Fault{At: 0, Code: api.ErrCheckIdle}},
		{"(1) = 1;", api.Fault{At: 4, Code: api.ErrCheckPlace}},
	} {
		wantRefused(t, parsed(t, x.src), x.want)
	}
	// R8: lists that are no trees
	wantRefused(t, nil, api.Fault{At: 0, Code: api.ErrTreeRoot})
	wantRefused(t, []api.Node{{Kind: api.EInt, Num: 1}}, api.Fault{At: 1, Code: api.ErrTreeRoot})
	wantRefused(t, []api.Node{{Kind: api.EInt, Num: 1}, {Kind: api.SDo, Kids: []int{0}}, {Kind: 99}}, api.Fault{At: 2, Code: api.ErrTreeNode})
}

// spoilt is a list in which something may be wrong.
func spoilt(r *rand.Rand, l []api.Node) []api.Node {
	l = slices.Clone(l)
	for k := range l {
		l[k].Kids = slices.Clone(l[k].Kids)
	}
	if r.IntN(4) == 0 {
		for k := range l {
			l[k].At = r.IntN(9)
		}
		return l
	}
	for range 1 + r.IntN(2) {
		one := &l[r.IntN(len(l))]
		switch r.IntN(6) {
		case 0:
			one.Kind = r.IntN(50)
		case 1:
			one.Num = r.IntN(50) - 1
		case 2:
			one.Name = []string{"", "x", "val", "input", "I"}[r.IntN(5)]
		case 3:
			one.Kids = append(one.Kids, r.IntN(len(l)))
		case 4:
			*one = l[r.IntN(len(l))]
		case 5:
			l = l[:r.IntN(len(l)+1)]
			if len(l) == 0 {
				return l
			}
		}
	}
	return l
}

// TestSpoilt: P12.1, R1, R8: whatever is handed in.
func TestSpoilt(t *testing.T) {
	refused, taken := 0, 0
	some(t, 3, 3000, func(r *rand.Rand, l []api.Node) {
		l = spoilt(r, l)
		lent := roomyNodes(l)
		ahead := wholeNodes(lent)
		x, got := walk.New(lent)
		_, _, want := check.Check(l)
		if got != want || (x == nil) != (want.Code != api.OK) {
			t.Fatalf("%v: %v, not %v", l, got, want)
		}
		if !reflect.DeepEqual(wholeNodes(lent), ahead) {
			t.Fatalf("%v: what was handed in is changed", l)
		}
		if x == nil {
			refused++
			return
		}
		taken++
		c := newCrew(newProgram(t, l), r, false)
		c.live(20)
		c.end()
	})
	if refused < 1000 || taken < 300 {
		t.Errorf("%d were refused, %d taken", refused, taken)
	}
}

// TestRunAgain: P12.2: Run of one that waits, asks, has ended or is spent; what is given and fired where it counts, and where nothing changes.
func TestRunAgain(t *testing.T) {
	stories{
		// it begins, and is at a tick: nothing is fired or given
		{"while true { }", "give c5; fire 0 1; held; run; give c5; fire 0 1; held; run", "held 1 2; tick; held 1 2; tick"},
		// it waits: again and again, with no cells; Give changes nothing; no arm of that number; the first Fire counts
		{"val x = (1, <-input); output <-= x.1;", "run; run; give c7; held; run; fire -1 4; fire 1 4; run; fire 0 5; fire 0 6; held; run; run; fire 0 9; fire 0 9; run",
			"wait ?1; wait ?1; held 1 2; wait ?1; wait ?1; held 1 2; wait !2=5 +3; wait !2=5; exit"},
		// it asks: Fire changes nothing; the first Give counts
		{"val c = [make chan of int]; c[0] <-= 4;", "run; fire 0 5; run; held; give c8; give c9; held; run; held; run", "make; make; held 1 2; held 1 2 8; wait !8=4 +2; held 1 2 8; wait !8=4"},
		// a birth: it goes on behind it, without anything
		{"begin prog(c: chan of int) { }(make chan of int); <-input;", "run; give c7; held; run; held; give c6; fire 0 5; held; run; held", "make +1; held 1 2 7; born p5<> c7; held 1 2; held 1 2; wait ?1; held 1 2"},
		// ended, trapped, spent
		{"val t = (1, 2);", "run; give c5; fire 0 1; held; run; run 0 0; clone; run; held", "exit +3; held; exit; exit; exit; held"},
		{"val t = (1, 2); val x = 1 / 0;", "run; give c5; fire 0 1; held; run; run 0 0; clone; run; held", "trap 1 +3; held; trap 1; trap 1; trap 1; held"},
		{"val t = (1, 2); val u = (1, 2);", "run 5 1; give c5; fire 0 1; held; run; run 0 0; clone; run; held", "spent 5 +3; held; spent 5; spent 5; spent 5; held"},
		{"val f = prog() { }; f();", "run 9 1; give c5; fire 0 1; held; run; run 9 9; clone; run; held", "spent 6 +1; held; spent 6; spent 6; spent 6; held"},
		// a select without arms waits for good
		{"select { }", "run; fire 0 1; fire -1 1; run; held", "wait; wait; held 1 2"},
		// a nil channel
		{"var c: chan of int; select { case <-c { } case c <-= 1 { } }", "run; held; fire 1 5; run", "wait ?0 !0=1 +1; held 1 2; exit"},
		// of one that sends, what is fired with is not looked at
		{"output <-= 1; <-input;", "run; fire 0 c9; held; run; held", "wait !2=1; held 1 2; wait ?1; held 1 2"},
		{"select { case output <-= 1 { <-input; } case <-input { } }", "run; fire 0 (c8 c9); held; run; held", "wait !2=1 ?1; held 1 2; wait ?1; held 1 2"},
		// which arm happened is the one that goes on
		{"select { case x = <-input { output <-= x; } case output <-= 4 { output <-= 40; } case <-input { output <-= 50; } }",
			"run; clone; fire 0 1; run; back; clone; fire 1 1; run; back; fire 2 1; run", "wait ?1 !2=4 ?1; wait !2=1; wait !2=40; wait !2=50"},
	}.try(t)
}

// TestCellsLeft: P12.2: cells at what is left, and one above; numbers below 0.
func TestCellsLeft(t *testing.T) {
	for _, x := range []struct {
		src   string
		cells int
	}{
		{"val t = (1, 2, 3);", 4}, {"val a = [1, 2];", 3}, {"val a = fill(3, [1]);", 9}, {"val a = fill(0, (1, 2));", 4}, {"val a = 1; val b = (1, 2); val f = prog() { val c = (a, b); };", 8},
		{"val f = prog() { };", 1}, {"var x: int;", 1}, {"var x: bool;", 1}, {"var x: chan of int;", 1}, {"var x: array of int;", 1}, {"var x: prog();", 1}, {"var x: (int, (bool, chan of int));", 5},
		{"var t: (int, int); t.0 = 7;", 6}, {"var a: array of (int, int) = [(1, 2)]; a[0].1 = 7;", 11}, {"val t = ((1, 2), [3]); val u = t.0;", 11}, {"var x: int = 4; x = 5;", 0},
		{"var t: (int, array of int); t.1 = [1, 2];", 3 + 3 + 5},
	} {
		c := newProgram(t, parsed(t, x.src))
		for _, cells := range []int{x.cells, x.cells + 1, math.MaxInt} {
			if p := c.first(false).Run(cells, 1); p.Kind != api.PExit || p.Cells != x.cells {
				t.Errorf("%s: %d cells: %s", x.src, cells, line(p))
			}
		}
		for cells := -1; cells < x.cells; cells++ {
			if x.cells == 0 {
				break // no cells are used, however few there are
			}
			if p := c.first(false).Run(cells, 1); p.Kind != api.PSpent || p.Code != api.SpentCells || p.Cells > max(cells, 0) {
				t.Errorf("%s: %d cells: %s", x.src, cells, line(p))
			}
		}
		if p := c.first(false).Run(math.MinInt, math.MinInt); (p.Kind == api.PSpent) != (x.cells > 0) || p.Cells != 0 {
			t.Errorf("%s: %s", x.src, line(p))
		}
	}
	stories{
		// each Run begins with all its cells
		{"val t = (1, 2); <-input; val u = (1, 2); while true { val v = (3, 4); }", "run 3 1; fire 0 1; run 6 1; run 3 1; run 2 1", "wait ?1 +3; tick +6; tick +3; spent 5"},
		{"var t: (int, int); <-input; t.0 = 7;", "run; fire 0 1; run -9223372036854775808 1", "wait ?1 +3; spent 5"},
		// a trap is ahead of the cells, where it comes first
		{"val a = fill(-1, 1);", "run 0 1", "trap 3"},
		{"var a: array of int = [1]; a[1] = 5;", "run 2 1", "trap 2 +2"},
		{"var a: array of int = [1]; a[-1] = 5;", "run 2 1", "trap 2 +2"},
		{"val t = ((1, 2), 1 / 0);", "run 3 1", "trap 1 +3"},
		{"val t = ((1, 2), 1 / 0);", "run 2 1", "spent 5"},
	}.try(t)
}

// TestDepth: P12.2: calls at the bound, and one above it; the first call stands whatever depth is.
func TestDepth(t *testing.T) {
	const src = "val f = prog g(n: int): int { if n == 0 { return 0; } return 1 + g(n - 1); }; output <-= f(2);"
	stories{
		{src, "run 9 4; run 9 4; run 9 4; run 9 4", "tick +1; tick; tick; wait !2=2"},
		{src, "run 9 3; run 9 3; run 9 3; run 9 3", "tick +1; tick; spent 6; spent 6"},
		{src, "run 9 2; run 9 9; run 9 4; run 9 0", "tick +1; tick; tick; wait !2=2"},
		{src, "run 9 1", "spent 6 +1"},
		{src, "run 9 0", "spent 6 +1"},
		{src, "run 9 -9223372036854775808", "spent 6 +1"},
		{"<-input;", "run 9 -5; fire 0 1; run 9 -5", "wait ?1; exit"},
		// calls one behind the other are not deep
		{"val f = prog() { }; f(); f(); f();", "run 9 2; run 9 2; run 9 2; run 9 2", "tick +1; tick; tick; exit"},
		// nil is told ahead of the depth
		{"var f: prog(); f();", "run 9 0", "trap 4 +1"},
		// a child's first call is one deep, and stands whatever depth is
		{"val f = prog() { val g = prog() { }; g(); }; begin f();", "run; child born; run 9 1; back; child born; run 9 2; run 9 2", "born p8<> +1; spent 6 +1; tick +1; exit"},
	}.try(t)
}

// TestChildren: P12.5, P12.6.
func TestChildren(t *testing.T) {
	// The EProg is the node 14, behind four of the first statement and ten in it; it captures output, c and input, in this order. The NProgram is the node 20.
	const src = "val c = make chan of int; val f = prog(n: int) { output <-= n; c <-= <-input; }; begin f(1);"
	stories{
		{src, "run; give c3; run; held; child born; held; run; held; fire 0 0; run; held; fire 0 6; run; held", "make; born p15<c2 c3 c1> 1 +4; held 1 2 3; held 1 2 3; wait !2=1; held 1 2 3; wait ?1; held 1 2 3; wait !3=6; held 1 2 3"},
		// what it is begun with need not come from this program's run
		{src, "child p15<c7 c8 c9> (4); held; run; held", "held 7 8 9; wait !7=4; held 7 8 9"},
		{src, "child p15<c7 c0 c9> (4); held", "held 7 9"},
		// nil; no prog; none of this program's; too few and too many captured values and arguments
		{src, "child p0<> (); held; run; run; give c1; fire 0 1; run; held", "held; trap 4; trap 4; trap 4; held"},
		{src, "child p0<c5> (c6); held; run; run", "held; trap 4; trap 4"},
		{src, "child 15 (4); held; run; back; child c15 (4); run; back; child none (4); run; back; child odd9:15<> (4); held; run", "held; trap 5; trap 5; trap 5; held; trap 5"},
		{src, "child p15<c7 c8> (4); held; run; back; child p15<c7 c8 c9 c10> (4); held; run; back; child p15<> (4); run", "held; trap 5; held; trap 5; trap 5"},
		{src, "child p15<c7 c8 c9> (); held; run; back; child p15<c7 c8 c9> (4 c5); held; run", "held; trap 5; held; trap 5"},
		{src, "child p14<c7 c8 c9> (4); held; run; back; child p16<c7 c8 c9> (4); run; back; child p1<c7 c8 c9> (4); run", "held; trap 5; trap 5; trap 5"},
		{src, "child p-15<c7 c8 c9> (4); run; back; child p-9223372036854775808<> (); run; back; child p9223372036854775807<> (); run; back; child p21<c1 c2> (); held; run", "trap 5; trap 5; trap 5; held; trap 5"},
		// children of children, of one that has ended, and of one that does not fit
		{src, "child p0<> (); run; child p15<c7 c8 c9> (4); run; child p15<c4 c5 c6> (1); held; run", "trap 4; wait !7=4; held 4 5 6; wait !4=1"},
		{"begin prog() { <-input; }();", "run; run; run; child born; run", "born p5<c1> +2; exit; exit; trap 5"},
		{"begin prog() { <-input; }();", "run; clone; run; back; child born; clone; run; fire 0 1; run; back; run", "born p5<c1> +2; exit; wait ?1; exit; wait ?1"},
		// one with a result ends with it; nobody sees it
		{"begin prog(a: int): int { return a; }(<-input);", "run; fire 0 4; run; child born; run", "wait ?1 +1; born p7<> 4; exit"},
	}.try(t)
}

// TestProgNumbers: P12.6: 1 more than the number of the EProg's node, and what was captured in scope's order.
func TestProgNumbers(t *testing.T) {
	for _, src := range []string{
		"val a = 1; val b = true; val c = make chan of prog(); c <-= prog() { if b { output <-= a; } };",
		"val a = 1; val c = make chan of prog(): int; val f = prog g(n: int): int { c <-= prog(): int { return a + g(n); }; return 1; }; val x = f(3);",
	} {
		p := newProgram(t, parsed(t, src))
		x := p.first(false)
		x.Run(100, 9)
		x.Give(channel(3))
		last := x.Run(100, 9)
		for last.Kind == api.PTick {
			last = x.Run(100, 9)
		}
		v := last.Arms[0].Value
		if v.Kind != api.VProg || p.l[v.Num-1].Kind != api.EProg || len(v.List) != len(p.names.Free[v.Num-1]) {
			t.Fatalf("%s: %s", src, text(v))
		}
		for k, declaration := range p.names.Free[v.Num-1] {
			kind := map[int]int{-3: api.VChan}[declaration]
			if declaration >= 0 {
				kind = map[int]int{api.KInt: api.VInt, api.KBool: api.VBool, api.KProg: api.VProg}[p.typed.Types[p.typed.Of[declaration]].Kind]
			}
			if v.List[k].Kind != kind {
				t.Errorf("%s: %s", src, text(v))
			}
			if kind == api.VProg && v.List[k].Num != declaration+1 {
				t.Errorf("%s: the outer prog is %s, not %d", src, text(v.List[k]), declaration+1)
			}
		}
	}
}

// TestClones: P12.7, R6: clones go their own way from wherever they were made.
func TestClones(t *testing.T) {
	stories{
		{"var n: int; while true { n = n + 1; output <-= n; }", "run; clone; fire 0 0; run; run; back; run; fire 0 0; run; clone; run; fire 0 0; run; run; back; run", "wait !2=1 +1; tick; wait !2=2; wait !2=1; tick; wait !2=2; tick; wait !2=3; wait !2=2"},
		{"val c = make chan of int; val d = make chan of int;", "run; clone; give c7; held; run; back; held; give c8; held; run; held", "make; held 1 2 7; make; held 1 2; held 1 2 8; make; held 1 2 8"},
		{"var a: array of int = [1, 2]; a[<-input] = 9; output <-= a[0] * 10 + a[1];", "run; clone; fire 0 0; run; back; fire 0 1; run", "wait ?1 +3; wait !2=92 +3; wait !2=19 +3"},
		{"val t = (<-input, <-input, <-input); output <-= t.0 * 100 + t.1 * 10 + t.2;", "run; fire 0 1; run; clone; fire 0 2; run; fire 0 3; run; back; fire 0 4; run; fire 0 5; run", "wait ?1; wait ?1; wait ?1; wait !2=123 +4; wait ?1; wait !2=145 +4"},
		{"val f = prog g(n: int): int { if n == 0 { return <-input; } return g(n - 1) * 10 + n; }; output <-= f(2);", "run; run; run; run; clone; fire 0 7; run; back; fire 0 8; run", "tick +2; tick; tick; wait ?1; wait !2=712; wait !2=812"},
		{"{ val c = make chan of int; <-input; } val d = make chan of int; <-input;", "run; give c7; run; clone; fire 0 1; run; give c8; held; back; held", "make; wait ?1; make; held 1 2 8; held 1 2 7"},
	}.try(t)
}

// TestNothing: R3: nil lists and empty ones are the same, handed in.
func TestNothing(t *testing.T) {
	l := []api.Node{{Kind: api.NProgram, Kids: []int{}}}
	x, f := walk.New(l)
	if x == nil || f != (api.Fault{}) {
		t.Fatal(f)
	}
	p := newProgram(t, parsed(t, "begin prog() { }();")).first(false)
	fn := p.Run(9, 9).Fn
	for _, args := range [][]api.Value{nil, {}} {
		for _, list := range [][]api.Value{nil, {}} {
			fn.List = list
			if got := p.real.Child(fn, args).Run(1, 1); got.Kind != api.PExit {
				t.Error(line(got))
			}
		}
	}
}

// TestZeroFields: an answer has nothing but what belongs to its kind.
func TestZeroFields(t *testing.T) {
	x, _ := walk.New(parsed(t, "val f = prog(n: int) { <-input; }; begin f(1); f(2); val c = make chan of int; select { case c <-= 1 { } case <-input { } } val x = 1 / 0;"))
	want := []api.Pause{
		{Kind: api.PBorn, Cells: 2, Fn: prog(7, channel(1)), Args: []api.Value{number(1)}},
		{Kind: api.PTick},
		{Kind: api.PWait, Arms: []api.Arm{{Chan: 1}}},
		{Kind: api.PMake},
		{Kind: api.PWait, Arms: []api.Arm{{Chan: 5, Send: true, Value: number(1)}, {Chan: 1}}},
		{Kind: api.PTrap, Code: api.TrapDivide},
	}
	for _, one := range want {
		got := x.Run(100, 9)
		if !reflect.DeepEqual(got, one) {
			t.Errorf("%v, not %v", got, one)
		}
		x.Give(channel(5))
		x.Fire(0, number(1))
	}
	if held := x.Held(); held != nil {
		t.Error(held)
	}
}
