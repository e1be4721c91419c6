package build_test

import (
	"reflect"
	"strconv"
	"strings"
	"testing"

	"squint/api"
	"squint/build"
	"squint/check"
	"squint/code"
	"squint/tree"
	"squint/verify"
)

// lines are a unit's text without its types.
func lines(t *testing.T, u api.Unit) string {
	t.Helper()
	u.Types = nil
	text, why := code.Print(u)
	if why != api.OK {
		t.Fatal(why)
	}
	return strings.ReplaceAll(strings.TrimSuffix(text, "\n"), "\n", ", ")
}

// The chapter's examples. (Which instructions are made is left to the layer: these are the ones that it makes.)
func TestExamples(t *testing.T) {
	for _, k := range []struct{ src, want string }{
		{"", "prog 0 0 2 0, ret"},
		{"val x = <-input; output <-= x + 1;", "prog 0 1 2 0, cap 0, wait 0 2, store 0, cap 1, load 0, int 1, bin 31, wait 1 8, ret"},
		{"while true { val a = 1; }", "prog 0 1 2 0, bool 1, false 6, int 1, store 0, clear 0, back 0, ret"},
		{"begin prog f(n: int) { f(n); }(3);", "prog 0 0 2 0, prog 1 0, int 3, begin 1, ret, prog 1 1 0 0, self, load 0, call 1 0, ret"},
	} {
		if got := lines(t, built(t, parsed(t, k.src))); got != k.want {
			t.Errorf("%q: %s\nwant %s", k.src, got, k.want)
		}
	}
}

// A name's slot is free again where its block has ended, so that a call has no more slots than names that are in scope at once.
func TestSlots(t *testing.T) {
	for _, k := range []struct {
		src   string
		slots int
	}{
		{"{ val a = 1; } { val b = 2; val c = 3; } val d = 4;", 2},
		{"val a = 1; { val b = 2; { val c = 3; } } val d = 4;", 3},
		{"select { case x = <-input { val y = 1; } case z = <-input { } }", 2},
		{"val f = prog(a: int) { val b = 1; };", 1},
	} {
		if u := built(t, parsed(t, k.src)); u.Progs[0].Slots != k.slots {
			t.Errorf("%q: %d slots, want %d", k.src, u.Progs[0].Slots, k.slots)
		}
	}
}

// wantFault: Build tells that fault, which is check's too, and nothing else.
func wantFault(t *testing.T, l []api.Node, want api.Fault) {
	t.Helper()
	u, f := build.Build(l)
	if f != want || len(u.Progs) > 0 || len(u.Types) > 0 {
		t.Errorf("%s: %v, with %v, want %v", shown(l), f, u, want)
	}
	if _, _, f := check.Check(l); f != want {
		t.Errorf("%s: check's fault is %v, want %v", shown(l), f, want)
	}
}

// P10.1: what check refuses.
func TestFaults(t *testing.T) {
	for _, k := range []struct {
		src  string
		at   int
		code api.Errno
	}{
		{"type A = int; type A = bool;", 14, api.ErrKindTwice},
		{"var x: T;", 7, api.ErrKindName},
		{"type A = (int, A);", 0, api.ErrKindOpen},
		{"val x = 1; var x: int;", 11, api.ErrScopeTwice},
		{"x;", 0, api.ErrScopeName},
		{"val x = 1; x = 2;", 11, api.ErrScopeSet},
		{"var v: int; val f = prog() { v = 1; };", 29, api.ErrScopeCapture},
		{"val x = 1 + true;", 10, api.ErrCheckType},
		{"val f = prog() { }; f(1);", 21, api.ErrCheckMany},
		{"val a = 1; val b = a[0];", 20, api.ErrCheckKind},
		{"val x = prog() { }();", 0, api.ErrCheckNone},
		{"return 1;", 0, api.ErrCheckReturn},
		{"val f = prog(): int { while true { return 1; } };", 8, api.ErrCheckMiss},
		{"begin 1;", 0, api.ErrCheckBegin},
		{"1;", 0, api.ErrCheckIdle},
		{"var x: int; (x) = 1;", 16, api.ErrCheckPlace},
	} {
		wantFault(t, parsed(t, k.src), api.Fault{At: k.at, Code: k.code})
	}
}

// P10.1 and R8: lists that are no trees; the node is told, not its place.
func TestNoTrees(t *testing.T) {
	program := api.Node{Kind: api.NProgram, Kids: []int{1}}
	do := api.Node{Kind: api.SDo, At: 7, Kids: []int{0}}
	for _, k := range []struct {
		l    []api.Node
		at   int
		code api.Errno
	}{
		{nil, 0, api.ErrTreeRoot},
		{[]api.Node{}, 0, api.ErrTreeRoot},
		{[]api.Node{{Kind: api.EInt, At: 9, Num: 1}}, 1, api.ErrTreeRoot},
		{[]api.Node{{Kind: api.EInt, At: -1}, do, program}, 0, api.ErrTreeNode},
		{[]api.Node{{Kind: 99, At: 4}, do, program}, 0, api.ErrTreeNode},
		{[]api.Node{{Kind: api.EInt, At: 9}, {Kind: api.SDo, At: 7, Kids: []int{5}}, program}, 1, api.ErrTreeKids},
		{[]api.Node{{Kind: api.EInt, At: 9}, {Kind: api.SDo, At: 7, Kids: []int{0}, Num: 3}, program}, 1, api.ErrTreeNum},
		{[]api.Node{{Kind: api.EName, At: 9, Name: "val"}, do, program}, 0, api.ErrTreeName},
		{[]api.Node{{Kind: api.EInt}, {Kind: api.EInt}, {Kind: api.EBin, Num: api.OpAdd, Kids: []int{0, 1}}, {Kind: api.EUnary, At: 9, Num: api.OpNeg, Kids: []int{2}}, do, program}, 3, api.ErrTreeLevel},
	} {
		wantFault(t, k.l, api.Fault{At: k.at, Code: k.code})
	}
}

// blocks are so many empty blocks, and the program, one more node.
func blocks(many int) []api.Node {
	l := make([]api.Node, many+1)
	l[many] = api.Node{Kind: api.NProgram, Kids: make([]int, many)}
	for i := range many {
		l[i].Kind = api.SBlock
		l[many].Kids[i] = i
	}
	return l
}

// P10.1: MaxSource + 1 nodes, and one more.
func TestBound(t *testing.T) {
	l := blocks(api.MaxSource)
	if u := built(t, l); lines(t, u) != "prog 0 0 2 0, ret" {
		t.Error(lines(t, u))
	}
	// What check says of a list comes behind: of one that it takes, of one that it refuses, of none that is a tree.
	l = blocks(api.MaxSource + 1)
	if at, code := tree.Check(l); code != api.OK {
		t.Fatal(at, code)
	}
	wrong := blocks(api.MaxSource + 1)
	wrong[api.MaxSource+1].Num = 5
	for _, l := range [][]api.Node{l, wrong, make([]api.Node, api.MaxSource+2), make([]api.Node, 3*api.MaxSource)} {
		if u, f := build.Build(l); f != (api.Fault{Code: api.ErrArg}) || len(u.Progs) > 0 || len(u.Types) > 0 {
			t.Errorf("%d nodes: %v", len(l), f)
		}
	}
	wantFault(t, wrong[:api.MaxSource+1], api.Fault{At: api.MaxSource + 1, Code: api.ErrTreeRoot})
	wantFault(t, make([]api.Node, api.MaxSource+1), api.Fault{Code: api.ErrTreeNode})
}

// twig is a node with its kids: what a tree is before it is a list.
type twig struct {
	api.Node
	kids []twig
}

func node(kind, num int, name string, kids ...twig) twig {
	return twig{api.Node{Kind: kind, Num: num, Name: name}, kids}
}

func (g twig) list(l []api.Node) []api.Node {
	n := g.Node
	for _, kid := range g.kids {
		l = kid.list(l)
		n.Kids = append(n.Kids, len(l)-1)
	}
	return append(l, n)
}

// within puts something about what stands inside, so many times.
func within(inside twig, times int, about func(inside twig) twig) twig {
	for range times {
		inside = about(inside)
	}
	return inside
}

// P10.1, P10.2, P10.3: programs of nearly as many nodes as there may be, each in another way as high, or as wide, as can be.
func TestLarge(t *testing.T) {
	one, yes := node(api.EInt, 1, ""), node(api.EBool, 1, "")
	empty := node(api.SBlock, 0, "")
	in := node(api.EName, 0, "input")
	block := func(kids ...twig) twig { return node(api.SBlock, 0, "", kids...) }
	value := func(e twig) twig { return node(api.SVal, 0, "x", e) }
	const most = api.MaxSource
	many := func(times int, make func(k int) twig) []twig {
		var out []twig
		for k := range times {
			out = append(out, make(k))
		}
		return out
	}
	again := func(times int, one twig) []twig { return many(times, func(int) twig { return one }) }
	for name, statements := range map[string][]twig{
		"blocks in blocks": {within(empty, most-1, func(e twig) twig { return block(e) })},
		"parentheses":      {value(within(one, most-2, func(e twig) twig { return node(api.EParen, 0, "", e) }))},
		"signs":            {value(within(one, most-2, func(e twig) twig { return node(api.EUnary, api.OpNeg, "", e) }))},
		"receives": {node(api.NType, 0, "T", node(api.TChan, 0, "", node(api.TName, 0, "T"))), node(api.SVar, 0, "c", node(api.TName, 0, "T")),
			value(within(node(api.EName, 0, "c"), most-7, func(e twig) twig { return node(api.EUnary, api.OpRecv, "", e) }))},
		"sums":             {value(within(one, most/2-1, func(e twig) twig { return node(api.EBin, api.OpAdd, "", e, one) }))},
		"and":              {value(within(yes, most/2-1, func(e twig) twig { return node(api.EBin, api.OpAnd, "", e, yes) }))},
		"or, to the right": {value(within(yes, most/3-1, func(e twig) twig { return node(api.EBin, api.OpOr, "", yes, node(api.EParen, 0, "", e)) }))},
		"tuples":           {value(within(one, most/2-1, func(e twig) twig { return node(api.ETuple, 0, "", e, one) }))},
		"a wide array":     {value(node(api.EArray, 0, "", again(most-2, one)...))},
		"else if": {within(empty, most/3-1, func(e twig) twig {
			if e.Kind == api.SIf {
				return node(api.SIf, 0, "", yes, empty, e)
			}
			return node(api.SIf, 0, "", node(api.EBool, 0, ""), empty, e)
		})},
		"loops in loops":       {within(node(api.SWhile, 0, "", yes, empty), most/3-1, func(e twig) twig { return node(api.SWhile, 0, "", yes, block(e)) })},
		"progs in progs":       {within(value(one), most/3-1, func(e twig) twig { return value(node(api.EProg, 0, "", block(e))) })},
		"a wide select":        {node(api.SSelect, 0, "", again(most/3-1, node(api.NRecv, 0, "x", in, empty))...)},
		"many values":          many(most/2, func(k int) twig { return node(api.SVal, 0, "x"+strconv.Itoa(k), one) }),
		"many values that end": {block(many(most/2-1, func(k int) twig { return node(api.SVal, 0, "x"+strconv.Itoa(k), one) })...)},
		"statements":           again(most/3, node(api.SDo, 0, "", node(api.EUnary, api.OpRecv, "", in))),
		"births":               again(most/4, node(api.SBegin, 0, "", node(api.ECall, 0, "", node(api.EProg, 0, "", empty)))),
	} {
		types := 0
		if statements[0].Kind == api.NType {
			types = 1
		}
		l := node(api.NProgram, types, "", statements...).list(nil)
		if len(l) > most+1 || len(l) < most-3 {
			t.Errorf("%s: %d nodes", name, len(l))
		}
		c := newCrew(t, l, nil)
		for range 3 {
			c.run(c.procs[0], 1<<20, 9)
		}
		c.end()
	}
}

// What many progs that stand in one another capture is the most that a unit can have instructions for.
func TestManyCaptures(t *testing.T) {
	const names, progs = 700, 700
	var src strings.Builder
	name := func(k int) string { return "v" + strconv.Itoa(k) }
	for k := range names {
		src.WriteString("val " + name(k) + " = 1; ")
	}
	src.WriteString(strings.Repeat("val f = prog() { ", progs) + "val x = [" + name(0))
	for k := range names - 1 {
		src.WriteString(", " + name(k+1))
	}
	src.WriteString("];" + strings.Repeat(" };", progs))
	u := built(t, parsed(t, src.String()))
	all := 0
	for _, p := range u.Progs {
		all += len(p.Code)
	}
	if len(u.Progs) != progs+1 || all < names*progs {
		t.Error(len(u.Progs), all)
	}
}

// P10.2: also where nothing is come to behind a return, or a wait for good.
func TestDeadEnds(t *testing.T) {
	for _, src := range []string{
		"return;", "return; return;", "return; val x = 1; val y = x + 1 == 2 && true;",
		"return; while true { val c = make chan of int; return; }",
		"while true { return; }", "while true { select { } }", "if true { return; } else { return; } output <-= 1;",
		"if true { val x = 1; return; } val y = 2;", "if true { val x = 1; return; } else { val y = 2; } val z = 3;",
		"if true { val x = 1; } else { val y = 2; return; } val z = 3;",
		"select { } val x = 1;", "{ val x = 1; select { } } val y = 1;", "{ val x = 1; return; val y = 1; } val z = 1;",
		"select { case <-input { return; } case x = <-input { return; } } val y = 1;",
		"select { case <-input { return; } case x = <-input { val y = 1; } } val z = 1;",
		"val f = prog(): int { val x = 1; select { case y = <-input { return y; } case output <-= 1 { select { } } } };",
		"val f = prog(): int { if true { return 1; } else if false { val x = 2; return x; } else { select { } } };",
		"val f = prog(): int { return 1; val x = 2; while x == 2 { return 3; } return 4; };",
		"val f = prog(n: int): int { while n > 0 { val m = n; { val k = m; return k; } } { val m = 3; return m; } };",
		"val f = prog() { return; }; f(); val g = prog() { while true { if true { return; } } }; g();",
	} {
		u := built(t, parsed(t, src))
		for n := range u.Progs {
			if heights := verify.Heights(u, n); len(heights) != len(u.Progs[n].Code) {
				t.Errorf("%s: %v", src, heights)
			}
		}
	}
}

// The unit's types are check's.
func TestTypes(t *testing.T) {
	l := parsed(t, "type T = chan of T; var a: T; val t = (1, [true]); val f = prog(n: int): T { select { } };")
	typed, _, _ := check.Check(l)
	if u := built(t, l); !reflect.DeepEqual(u.Types, typed.Types) {
		t.Errorf("%v, want %v", u.Types, typed.Types)
	}
}
