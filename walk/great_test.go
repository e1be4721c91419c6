package walk_test

import (
	"fmt"
	"math"
	"runtime/debug"
	"slices"
	"strings"
	"testing"

	"squint/api"
	"squint/walk"
)

// alone does the steps of a story with a walk and a machine: the second reading lays out all that it has.
func alone(t *testing.T, src, steps string) string {
	t.Helper()
	var out []string
	x := newProgram(t, parsed(t, src)).first(true)
	for _, step := range strings.Split(steps, ";") {
		r := &reader{strings.TrimSpace(step)}
		switch {
		case r.takes("run "):
			out = append(out, line(x.Run(r.number(), 9)))
		case r.takes("held"):
			out = append(out, strings.Trim(fmt.Sprint(x.held()), "[]"))
		case r.takes("clone"):
			x = x.Clone()
		case r.takes("fire "):
			x.Fire(0, r.value())
		case r.takes("give "):
			x.Give(r.value())
		default:
			t.Fatalf("no step: %q", step)
		}
	}
	return strings.Join(out, "; ")
}

// doubling are types: a pair of numbers, and pairs of the one ahead.
func doubling(many int) string {
	var out strings.Builder
	out.WriteString("type T0 = (int, int); ")
	for k := range many {
		fmt.Fprintf(&out, "type T%d = (T%d, T%d); ", k+1, k, k)
	}
	return out.String()
}

// TestGreat: P12.2, R1: values with more parts than could be laid out are made, asked, set, captured and passed on.
func TestGreat(t *testing.T) {
	const great = "var a: array of int = fill(1152921504606846976, 7); "
	for _, x := range [][3]string{
		{great + "a[3] = 5; output <-= a[3]; output <-= a[2]; output <-= a[1152921504606846975]; output <-= len(a);",
			"run 9223372036854775807; fire 0; clone; run 0; fire 0; run 0; fire 0; run 0; fire 0; run 0",
			"wait !2=5 +2305843009213693954; wait !2=7; wait !2=7; wait !2=1152921504606846976; exit"},
		{great + "a[3] = 5;", "run 2305843009213693953", "spent 5 +1152921504606846977"},
		{great + "a[1152921504606846976] = 5;", "run 9223372036854775807", "trap 2 +1152921504606846977"},
		{great + "val x = a[1152921504606846976];", "run 9223372036854775807", "trap 2 +1152921504606846977"},
		{"val a = fill(9223372036854775807, 1);", "run 9223372036854775807", "spent 5"},
		{"val a = fill(9223372036854775806, 1); output <-= a[9223372036854775805];", "run 9223372036854775807; run 0", "wait !2=1 +9223372036854775807; wait !2=1"},
		{"val a = fill(9223372036854775806, 1); <-input; val f = prog(): int { return len(a); };", "run 9223372036854775807; fire 0; run 9223372036854775807", "wait ?1 +9223372036854775807; spent 5"},
		{"val a = fill(4611686018427387904, 1); <-input; val t = (a, a);", "run 9223372036854775807; fire 0; run 9223372036854775807", "wait ?1 +4611686018427387905; spent 5"},
		{"val c = make chan of int; val a = fill(1152921504606846976, c); val f = prog(n: int): chan of int { <-input; return a[n]; }; f(9) <-= 1; <-input;",
			"run 0; give c5; run 9223372036854775807; held; run 0; fire 0; run 0; held; fire 0; run 0",
			"make; tick +2305843009213693956; 1 2 5; wait ?1; wait !5=1; 1 2 5; wait ?1"},
		{"var a: array of array of int = fill(1073741824, fill(1073741824, 7)); a[1073741823][5] = 3; output <-= a[1073741823][5]; output <-= a[1073741822][5];",
			"run 9223372036854775807; fire 0; run 0", "wait !2=3 +2305843012434919427; wait !2=7"},
		{doubling(59) + "var x: T59; x" + strings.Repeat(".1", 60) + " = 4; output <-= x" + strings.Repeat(".1", 60) + " * 10 + x" + strings.Repeat(".0", 60) + ";",
			"run 9223372036854775807", "wait !2=40 +4611686018427387902"},
		{doubling(61) + "var x: T61;", "run 9223372036854775807", "exit +9223372036854775807"},
		{doubling(61) + "var x: T61;", "run 9223372036854775806", "spent 5"},
		{doubling(80) + "var x: T62;", "run 9223372036854775807", "spent 5"},
		{doubling(80) + "var x: T80;", "run 9223372036854775807", "spent 5"},
	} {
		if got := alone(t, x[0], x[1]); got != x[2] {
			t.Errorf("%s\n%s:\n%s, not\n%s", x[0], x[1], got, x[2])
		}
	}
}

// bottom is what stands in so many arrays.
func bottom(t *testing.T, v api.Value, deep int) string {
	t.Helper()
	for k := range deep {
		if v.Kind != api.VArray || v.Num != 0 || len(v.List) != 1 {
			t.Fatalf("at %d: kind %d, %d in it", k, v.Kind, len(v.List))
		}
		v = v.List[0]
	}
	return text(v)
}

func begun(t *testing.T, l []api.Node) *walk.Walker {
	t.Helper()
	x, f := walk.New(l)
	if x == nil || f != (api.Fault{}) {
		t.Fatal(f)
	}
	return x
}

// TestDeepValues: R1: values in one another, deeper than calls could go, are made, given, fired, begun with, sent, held and told.
func TestDeepValues(t *testing.T) {
	const deep = 100000
	defer debug.SetMaxStack(debug.SetMaxStack(1 << 20))
	x := begun(t, parsed(t, "type T = array of T; val c = make chan of T; var x: T = <-c; var n: int; while n < 100000 { x = [x]; n = n + 1; } begin prog(t: T) { c <-= t; }(x); c <-= x;"))
	x.Run(9, 1)
	x.Give(channel(3))
	x.Run(9, 1)
	given := array(channel(7))
	for range deep {
		given = array(given)
	}
	x.Fire(0, given)
	if got := x.Held(); !slices.Equal(got, []int{1, 2, 3, 7}) {
		t.Fatal(got)
	}
	p := x.Run(math.MaxInt, 1)
	for p.Kind == api.PTick {
		p = x.Run(math.MaxInt, 1)
	}
	if p.Kind != api.PBorn || bottom(t, p.Args[0], 2*deep+1) != "c7" {
		t.Fatal(p.Kind)
	}
	y := x.Child(p.Fn, p.Args)
	for _, one := range []*walk.Walker{x, y, x.Clone()} {
		p = one.Run(9, 1)
		if p.Kind != api.PWait || p.Arms[0].Chan != 3 || bottom(t, p.Arms[0].Value, 2*deep+1) != "c7" {
			t.Fatal(p.Kind)
		}
	}
	if got := y.Held(); !slices.Equal(got, []int{3, 7}) {
		t.Fatal(got)
	}
}

// nodes lays a tree down, each node with the ones that stand ahead of it as its kids.
type nodes []api.Node

// put lays a node down that has the last one as its first kid, and others, without kids, behind it.
func (l nodes) put(n api.Node, others ...api.Node) nodes {
	n.Kids = append(n.Kids, len(l)-1)
	for _, one := range others {
		l = append(l, one)
		n.Kids = append(n.Kids, len(l)-1)
	}
	return append(l, n)
}

// TestDeepTrees: R1, R9: trees as deep as R9 lets there be.
func TestDeepTrees(t *testing.T) {
	const deep = 1<<16 - 8
	one, yes := api.Node{Kind: api.EInt, Num: 1}, api.Node{Kind: api.EBool, Num: 1}
	end := func(l nodes) nodes { return l.put(api.Node{Kind: api.NProgram}) }
	wanted := func(l nodes, want string) {
		t.Helper()
		x := begun(t, l)
		p := x.Run(math.MaxInt, 1)
		for p.Kind == api.PTick {
			p = x.Run(math.MaxInt, 1)
		}
		if line(p) != want {
			t.Errorf("%s, not %s", line(p), want)
		}
	}
	sum, minus, parens := nodes{one}, nodes{one}, nodes{one}
	for range deep {
		sum = sum.put(api.Node{Kind: api.EBin, Num: api.OpAdd}, one)
		minus = minus.put(api.Node{Kind: api.EUnary, Num: api.OpNeg})
		parens = parens.put(api.Node{Kind: api.EParen})
	}
	for _, l := range []nodes{sum, minus, parens} {
		wanted(end(l.put(api.Node{Kind: api.SVal, Name: "x"})), "exit")
	}
	arrays := nodes{one}
	for range 20000 {
		arrays = arrays.put(api.Node{Kind: api.EArray})
	}
	wanted(end(arrays.put(api.Node{Kind: api.SVal, Name: "x"})), "exit +200030000")
	blocks := nodes{api.Node{Kind: api.SBlock}}
	for range deep {
		blocks = blocks.put(api.Node{Kind: api.SBlock})
	}
	wanted(end(blocks), "exit")
	// if true { if true { .. } }: all conditions stand ahead of all blocks
	ifs := nodes(slices.Repeat([]api.Node{yes}, deep/2))
	ifs = append(ifs, api.Node{Kind: api.SBlock})
	for k := deep/2 - 1; k >= 0; k-- {
		ifs = append(ifs, api.Node{Kind: api.SIf, Kids: []int{k, len(ifs) - 1}})
		ifs = ifs.put(api.Node{Kind: api.SBlock})
	}
	wanted(end(ifs), "exit")
	// if false { } else if false { } else ..
	elses := nodes{}
	for range deep {
		elses = append(elses, api.Node{Kind: api.EBool}, api.Node{Kind: api.SBlock})
	}
	elses = append(elses, api.Node{Kind: api.SBlock})
	for k := deep - 1; k >= 0; k-- {
		elses = append(elses, api.Node{Kind: api.SIf, Kids: []int{2 * k, 2*k + 1, len(elses) - 1}})
	}
	wanted(end(elses), "exit")
	calls := begun(t, parsed(t, "val f = prog(n: int): int { return n + 1; }; output <-= "+strings.Repeat("f(", 20000)+"0"+strings.Repeat(")", 20000)+";"))
	for k := range 20000 {
		if p := calls.Run(9, 2); p.Kind != api.PTick {
			t.Fatal(k, line(p))
		}
	}
	if p := calls.Run(9, 2); line(p) != "wait !2=20000" {
		t.Error(line(p))
	}
}

// TestDeepCalls: as many calls in one another as are let.
func TestDeepCalls(t *testing.T) {
	x := begun(t, parsed(t, "val f = prog g(n: int): int { if n == 0 { return <-input; } return g(n - 1) + 1; }; output <-= f(200000);"))
	for range 200001 {
		if p := x.Run(9, 1<<40); p.Kind != api.PTick {
			t.Fatal(line(p))
		}
	}
	y := x.Clone()
	for _, one := range []*walk.Walker{x, y} {
		if p := one.Run(9, 1); line(p) != "wait ?1" {
			t.Fatal(line(p))
		}
		one.Fire(0, number(5))
		if p := one.Run(9, 1); line(p) != "wait !2=200005" {
			t.Fatal(line(p))
		}
	}
}
