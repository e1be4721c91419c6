package check_test

import (
	"math/rand/v2"
	"reflect"
	"slices"
	"strconv"
	"strings"
	"testing"

	"squint/api"
	"squint/check"
	"squint/kinds"
	"squint/scope"
	"squint/tree"
)

// eachTaken makes programs of which nothing is wrong.
func eachTaken(t *testing.T, seed uint64, times int, do func(m *maker, l []api.Node, typed api.Typed, names api.Names)) {
	t.Helper()
	many := 0
	eachProgram(t, seed, times, func(m *maker, l []api.Node) {
		typed, names, f := check.Check(l)
		if f.Code == api.OK {
			many++
			do(m, l, typed, names)
		}
	})
	if many < times/3 {
		t.Errorf("only %d of %d programs were taken", many, times)
	}
}

// P6.6
func TestTypesHold(t *testing.T) {
	seen := map[int]int{}
	eachTaken(t, 3, 6000, func(_ *maker, l []api.Node, typed api.Typed, names api.Names) {
		if !kinds.Valid(typed.Types) || len(typed.Of) != len(l) {
			t.Fatalf("%v", typed)
		}
		r := read(l, names)
		for i, n := range l {
			row := typed.Of[i]
			if row < -1 || row >= len(typed.Types) {
				t.Fatalf("node %d has the row %d of %d", i, row, len(typed.Types))
			}
			if n.Kind == api.EName && names.Ref[i] >= 0 && row != typed.Of[names.Ref[i]] {
				t.Fatalf("node %d has the row %d, its declaration %d", i, row, typed.Of[names.Ref[i]])
			}
			want := map[int]int{api.EInt: api.KInt, api.EBool: api.KBool, api.ETuple: api.KTuple, api.EArray: api.KArray, api.EFill: api.KArray, api.ELen: api.KInt, api.EMake: api.KChan, api.EProg: api.KProg,
				api.TInt: api.KInt, api.TBool: api.KBool, api.TArray: api.KArray, api.TTuple: api.KTuple, api.TChan: api.KChan, api.TProg: api.KProg}[n.Kind]
			if want != 0 && (row < 0 || typed.Types[row].Kind != want) {
				t.Fatalf("node %d, of the kind %d, has the row %d", i, n.Kind, row)
			}
			// What has no type is a call, in parentheses or not, that a statement does or begins.
			isExpr := n.Kind >= api.EInt && n.Kind <= api.EField
			if isExpr && row == -1 {
				up := l[r.up[i]].Kind
				if r.bare(i).Kind != api.ECall || up != api.EParen && up != api.SDo && up != api.SBegin {
					t.Fatalf("node %d has no type", i)
				}
			}
			seen[n.Kind]++
		}
	})
	for kind := api.EInt; kind <= api.NProgram; kind++ {
		if seen[kind] < 20 && (kind <= api.EField || kind >= api.SVal) {
			t.Errorf("only %d nodes of the kind %d", seen[kind], kind)
		}
	}
}

// twig is a node with its kids: what a tree is before it is a list.
type twig struct {
	api.Node
	kids []*twig
}

func plant(l []api.Node, i int) *twig {
	out := &twig{Node: l[i]}
	for _, k := range l[i].Kids {
		out.kids = append(out.kids, plant(l, k))
	}
	return out
}

func (g *twig) list(l []api.Node) []api.Node {
	n := g.Node
	n.Kids = nil
	for _, kid := range g.kids {
		l = kid.list(l)
		n.Kids = append(n.Kids, len(l)-1)
	}
	return append(l, n)
}

func (g *twig) each(do func(g *twig)) {
	for _, kid := range g.kids {
		kid.each(do)
	}
	do(g)
}

// retyped writes types otherwise: other names, declared in another order; names in the place of types, and types in the place of names.
func (m *maker) retyped(l []api.Node) []api.Node {
	root := plant(l, len(l)-1)
	means := map[string]*twig{}
	for _, d := range root.kids[:root.Num] {
		means[d.Name] = d.kids[0]
	}
	var fresh []*twig
	name := func(of *twig) *twig {
		as := "Z" + strconv.Itoa(len(fresh))
		fresh = append(fresh, &twig{api.Node{Kind: api.NType, Name: as}, []*twig{of}})
		return &twig{api.Node{Kind: api.TName, Name: as}, nil}
	}
	root.each(func(g *twig) {
		for k, kid := range g.kids {
			isType := kid.Kind >= api.TInt && kid.Kind <= api.TProg
			switch {
			case !isType || m.IntN(3) > 0:
			case kid.Kind == api.TName && g.Kind != api.NType && m.IntN(2) == 0:
				// It stays as it was: what it means is put there as another tree.
				if of := means[kid.Name]; of != nil {
					meant := of.list(nil)
					g.kids[k] = plant(meant, len(meant)-1)
				}
			case g.Kind != api.EMake:
				g.kids[k] = name(kid)
			}
		}
	})
	decls := append(fresh, root.kids[:root.Num]...)
	m.Shuffle(len(decls), func(i, k int) { decls[i], decls[k] = decls[k], decls[i] })
	root.kids = append(decls, root.kids[root.Num:]...)
	root.Num = len(decls)
	names := map[string]string{}
	for k, as := range m.Perm(len(decls)) {
		names[decls[k].Name] = "t" + strconv.Itoa(as)
	}
	root.each(func(g *twig) {
		if as := names[g.Name]; as != "" && (g.Kind == api.TName || g.Kind == api.NType) {
			g.Name = as
		}
	})
	return root.list(nil)
}

// P6.7: types' names, and their order.
func TestTypesWrittenInOtherWays(t *testing.T) {
	seen := map[api.Errno]int{}
	eachProgram(t, 4, 6000, func(m *maker, l []api.Node) {
		if m.IntN(3) == 0 {
			l = m.otherwise(l)
		}
		other := m.retyped(l)
		if _, code := tree.Check(other); code != api.OK {
			t.Fatalf("no tree: %d", code)
		}
		_, _, f := check.Check(l)
		_, _, f2 := check.Check(other)
		seen[f.Code]++
		// At is the same node's, too, but for what is wrong with types themselves.
		if f.Code != f2.Code || f.Code >= api.ErrScopeTwice && f != f2 {
			text, _ := tree.Print(l)
			text2, _ := tree.Print(other)
			t.Fatalf("%q: %v\n%q: %v", text, f, text2, f2)
		}
	})
	for _, code := range []api.Errno{api.OK, api.ErrKindOpen, api.ErrCheckType, api.ErrCheckKind, api.ErrCheckMany} {
		if seen[code] < 20 {
			t.Errorf("only %d programs with %d", seen[code], code)
		}
	}
}

// P6.7: types that are declared twice, not at all, or in a ring, in any order.
func TestDeclaredInOtherOrders(t *testing.T) {
	for _, one := range []struct {
		decls string
		code  api.Errno
	}{
		{"type A = int;|type B = A;|type C = chan of D;|type D = (B, C);", api.OK},
		{"type A = int;|type B = A;|type A = bool;|type C = E;", api.ErrKindTwice},
		{"type A = int;|type B = X;|type C = C;", api.ErrKindName},
		{"type A = B;|type B = (int, C);|type C = A;", api.ErrKindOpen},
	} {
		decls := strings.Split(one.decls, "|")
		r := rand.New(rand.NewPCG(6, 5))
		for range 30 {
			r.Shuffle(len(decls), func(i, k int) { decls[i], decls[k] = decls[k], decls[i] })
			if _, _, f := check.Check(parsed(t, strings.Join(decls, " "))); f.Code != one.code {
				t.Errorf("%q: %v", decls, f)
			}
		}
	}
}

// bracketed puts expressions in parentheses, but for places and what they are made of.
func (m *maker) bracketed(l []api.Node) []api.Node {
	root := plant(l, len(l)-1)
	places := map[*twig]bool{}
	root.each(func(g *twig) {
		if g.Kind == api.SSet {
			for at := g.kids[0]; ; at = at.kids[0] {
				places[at] = true
				if at.Kind != api.EIndex && at.Kind != api.EField {
					break
				}
			}
		}
	})
	root.each(func(g *twig) {
		for k, kid := range g.kids {
			if kid.Kind < api.EInt || kid.Kind > api.EField || places[kid] {
				continue
			}
			for range m.IntN(5) / 3 * (1 + m.IntN(2)) {
				g.kids[k] = &twig{api.Node{Kind: api.EParen, At: 7}, []*twig{g.kids[k]}}
			}
		}
	})
	return root.list(nil)
}

// P6.7: parentheses.
func TestParentheses(t *testing.T) {
	seen := map[api.Errno]int{}
	eachProgram(t, 6, 6000, func(m *maker, l []api.Node) {
		other := m.bracketed(l)
		if _, code := tree.Check(other); code != api.OK {
			t.Fatalf("no tree: %d", code)
		}
		typed, _, f := check.Check(l)
		typed2, _, f2 := check.Check(other)
		seen[f.Code]++
		if f != f2 || !reflect.DeepEqual(typed.Types, typed2.Types) {
			text, _ := tree.Print(l)
			text2, _ := tree.Print(other)
			t.Fatalf("%q: %v\n%q: %v", text, f, text2, f2)
		}
	})
	for code := api.ErrCheckType; code <= api.ErrCheckPlace; code++ {
		if seen[code] < 5 {
			t.Errorf("only %d programs with %d", seen[code], code)
		}
	}
}

// goes runs through a statement as chance picks the way: it tells whether one comes to its end. (A return, and a wait for good, have none.)
func (m *maker) goes(l []api.Node, i int) bool {
	n := l[i]
	last := func(i int) int { return l[i].Kids[len(l[i].Kids)-1] }
	switch n.Kind {
	case api.SReturn:
		return false
	case api.SBlock:
		for _, k := range n.Kids {
			if !m.goes(l, k) {
				return false
			}
		}
	case api.SIf:
		if way := 1 + m.IntN(2); way < len(n.Kids) {
			return m.goes(l, n.Kids[way])
		}
	case api.SWhile:
		for range m.IntN(3) {
			if !m.goes(l, n.Kids[1]) {
				return false
			}
		}
	case api.SSelect:
		return len(n.Kids) > 0 && m.goes(l, last(n.Kids[m.IntN(len(n.Kids))]))
	}
	return true
}

// P6.8
func TestNoWayOut(t *testing.T) {
	progs := 0
	eachTaken(t, 7, 8000, func(m *maker, l []api.Node, _ api.Typed, _ api.Names) {
		for _, n := range l {
			if n.Kind != api.EProg || n.Num == 0 {
				continue
			}
			progs++
			for range 20 {
				if m.goes(l, n.Kids[len(n.Kids)-1]) {
					text, _ := tree.Print(l)
					t.Fatalf("%q: the prog at %d has a way to its end", text, n.At)
				}
			}
		}
	})
	if progs < 800 {
		t.Errorf("only %d progs", progs)
	}
}

// P6.5, P6.8: all bodies of a few statements, in one another.
func TestSmallBodies(t *testing.T) {
	bodies := []string{"", "return 1;", "<-input;"}
	for range 2 {
		var more []string
		for _, x := range bodies {
			more = append(more, x, "{ "+x+" }", "while true { "+x+" }", "if true { "+x+" }", "select { case <-input { "+x+" } }", x+" <-input;", x+" return 1;")
			for _, y := range bodies[:min(len(bodies), 16)] {
				more = append(more, "if true { "+x+" } else { "+y+" }", "select { case <-input { "+x+" } case output <-= 1 { "+y+" } }", "if false { } else if true { "+x+" } else { "+y+" }")
			}
		}
		bodies = append(more, "select { }")
	}
	m := &maker{Rand: rand.New(rand.NewPCG(6, 8))}
	seen := map[api.Errno]int{}
	for _, body := range bodies {
		l := parsed(t, "val f = prog(): int { "+body+" };")
		_, _, f, _ := wantRead(t, l)
		seen[f.Code]++
		prog := l[len(l)-3]
		out := false
		for range 60 {
			out = out || m.goes(l, prog.Kids[len(prog.Kids)-1])
		}
		switch {
		case f.Code == api.OK && out:
			t.Fatalf("%q is taken", body)
		case f.Code == api.ErrCheckMiss && f.At != 8:
			t.Fatalf("%q: %v", body, f)
		}
	}
	if seen[api.OK] < 50 || seen[api.ErrCheckMiss] < 50 || len(seen) != 2 {
		t.Errorf("%v", seen)
	}
}

func copyOf(l []api.Node) []api.Node {
	out := append([]api.Node(nil), l...)
	for i := range out {
		out[i].Kids = append([]int(nil), out[i].Kids...)
	}
	return out
}

// spoilt changes one thing of one node, or takes one away, or puts signs in the place of parentheses.
func (m *maker) spoilt(l []api.Node) []api.Node {
	out := copyOf(l)
	k := m.IntN(len(out))
	one := &out[k]
	switch m.IntN(8) {
	case 0:
		one.Kind = m.IntN(48)
	case 1:
		one.At = -1 - m.IntN(2)
	case 2:
		one.Name = m.one("", "val", "a", "9")
	case 3:
		one.Num += m.IntN(3) - 1
	case 4:
		one.Kids = append(one.Kids, m.IntN(len(out)+1)-1)
	case 5:
		one.Kids = one.Kids[:max(0, len(one.Kids)-1)]
	case 6:
		out = append(out[:k], out[k+1:]...)
	case 7:
		for i := range out {
			if out[i].Kind == api.EParen {
				out[i].Kind, out[i].Num = api.EUnary, api.OpNot
			}
		}
	}
	return out
}

// R8: ahead of all else that is wrong.
func TestWrongLists(t *testing.T) {
	wrong := map[api.Errno]int{}
	eachProgram(t, 9, 6000, func(m *maker, l []api.Node) {
		l = m.spoilt(l)
		at, code := tree.Check(l)
		wrong[code]++
		if code == api.OK {
			wantRead(t, l)
			return
		}
		typed, names, f := check.Check(l)
		if f != (api.Fault{At: at, Code: code}) || !isNothing(typed, names) {
			t.Fatalf("%v, not %d, %d", f, at, code)
		}
	})
	for code := api.ErrTreeNode; code <= api.ErrTreeRoot; code++ {
		if wrong[code] < 10 {
			t.Errorf("only %d lists with %d", wrong[code], code)
		}
	}
}

// fullRoom is a list with spare room behind its end that is full of marks, and the whole of it.
func fullRoom(l []api.Node) ([]api.Node, []api.Node) {
	whole := append(copyOf(l), api.Node{Kind: -7}, api.Node{Kind: -8})
	for i := range l {
		kids := append(append([]int(nil), l[i].Kids...), -7, -8)
		whole[i].Kids = kids[:len(l[i].Kids)]
	}
	return whole[:len(l)], whole
}

func scribble(list []int) {
	list = list[:cap(list)]
	for i := range list {
		list[i] = -99
	}
}

// R4, R5: what is handed in stays; what is answered is one's own, and always the same.
func TestMemory(t *testing.T) {
	eachProgram(t, 10, 1500, func(_ *maker, l []api.Node) {
		given, whole := fullRoom(l)
		_, keep := fullRoom(l)
		typed, names, f := check.Check(given)
		typed2, names2, f2 := check.Check(given)
		rest := func(k int) []api.Type { return typed.Types[k:] }
		for k := range typed.Types {
			scribble(typed.Types[k].Kids)
			if !reflect.DeepEqual(rest(k+1), typed2.Types[k+1:]) || !slices.Equal(typed.Of, typed2.Of) {
				t.Fatalf("the kids of the row %d share memory with another list", k)
			}
		}
		scribble(typed.Of)
		if !reflect.DeepEqual(names, names2) {
			t.Fatal("types and names share memory")
		}
		scribble(names.Ref)
		for i := range names.Free {
			scribble(names.Free[i])
		}
		typed.Types = typed.Types[:cap(typed.Types)]
		for k := range typed.Types {
			typed.Types[k] = api.Type{Kind: -7}
		}
		typed3, names3, f3 := check.Check(given)
		if f2 != f || f3 != f || !reflect.DeepEqual(typed2, typed3) || !reflect.DeepEqual(names2, names3) {
			t.Fatalf("%v, %v, %v and then %v, %v, %v", typed2, names2, f2, typed3, names3, f3)
		}
		if !reflect.DeepEqual(whole, keep) {
			t.Fatalf("the list was changed: %v, %v", whole, keep)
		}
		for i := range l {
			if n := len(l[i].Kids); !reflect.DeepEqual(whole[i].Kids[:n+2], keep[i].Kids[:n+2]) {
				t.Fatalf("the room behind the kids of %d was changed", i)
			}
		}
	})
}

// P6.1: the names are scope's.
func TestNames(t *testing.T) {
	eachTaken(t, 11, 1000, func(_ *maker, l []api.Node, _ api.Typed, names api.Names) {
		if want, _ := scope.Names(l); !reflect.DeepEqual(names, want) {
			t.Fatalf("%v, not %v", names, want)
		}
	})
}

// add puts a node behind a list.
func add(l []api.Node, kind int, name string, num int, kids ...int) []api.Node {
	return append(l, api.Node{Kind: kind, At: len(l), Kids: kids, Name: name, Num: num})
}

// around puts a node behind a list, whose last one is its only kid.
func around(l []api.Node, kind, num int) []api.Node {
	return add(l, kind, "", num, len(l)-1)
}

// wantOnly is for lists that are too long to be told.
func wantOnly(t *testing.T, l []api.Node, want api.Fault) api.Typed {
	t.Helper()
	typed, names, f := check.Check(l)
	if f != want || want.Code != api.OK && !isNothing(typed, names) {
		t.Fatalf("%v, not %v", f, want)
	}
	return typed
}

// R1: as many parts in one another as R9 speaks of.
func TestDeep(t *testing.T) {
	const high = 1 << 16
	for _, one := range []struct {
		kind, num int
		code      api.Errno
		at        int
	}{
		{api.EParen, 0, api.OK, 0}, {api.EArray, 0, api.OK, 0}, {api.EUnary, api.OpNeg, api.ErrCheckType, 1}, {api.EUnary, api.OpRecv, api.ErrCheckKind, 2}, {api.ECall, 0, api.ErrCheckKind, 1},
	} {
		l := add(nil, api.EName, "input", 0)
		for range high - 3 {
			l = around(l, one.kind, one.num)
		}
		l = add(l, api.SVal, "x", 0, len(l)-1)
		typed := wantOnly(t, around(l, api.NProgram, 0), api.Fault{At: one.at, Code: one.code})
		if one.kind == api.EArray && len(typed.Types) != high {
			t.Errorf("%d rows", len(typed.Types))
		}
	}
	// Blocks in one another, at whose bottom something returns, or does not.
	for _, last := range []int{api.SReturn, api.SSelect, api.SBlock} {
		l := add(nil, api.TInt, "", 0)
		if last == api.SReturn {
			l = add(add(l, api.EInt, "", 0), last, "", 0, 1)
		} else {
			l = add(l, last, "", 0)
		}
		for range high - 6 {
			l = around(l, api.SBlock, 0)
		}
		l = add(l, api.EProg, "", 1, 0, len(l)-1)
		want := api.Fault{}
		if last == api.SBlock {
			want = api.Fault{At: len(l) - 1, Code: api.ErrCheckMiss}
		}
		l = add(l, api.SVal, "x", 0, len(l)-1)
		wantOnly(t, around(l, api.NProgram, 0), want)
	}
}

// Types in one another, as deep as may be, and the same ones written once more.
func TestDeepTypes(t *testing.T) {
	const high = 1<<16 - 4
	var l []api.Node
	var vars []int
	for k := range 3 {
		l = add(l, api.TInt, "", 0)
		if k == 2 {
			l[len(l)-1].Kind = api.TBool
		}
		for range high {
			l = around(l, api.TChan, 0)
		}
		l = add(l, api.SVar, "v"+strconv.Itoa(k), 0, len(l)-1)
		vars = append(vars, len(l)-1)
	}
	for k, code := range []api.Errno{1: api.OK, 2: api.ErrCheckType} {
		if k == 0 {
			continue
		}
		whole := add(copyOf(l), api.EName, "v0", 0)
		whole = add(whole, api.EName, "v"+strconv.Itoa(k), 0)
		whole = add(whole, api.SSet, "", 0, len(whole)-2, len(whole)-1)
		whole = add(whole, api.NProgram, "", 0, append(slices.Clone(vars), len(whole)-1)...)
		want := api.Fault{}
		if code != api.OK {
			want = api.Fault{At: len(whole) - 2, Code: code}
		}
		wantOnly(t, whole, want)
	}
}

// Progs in one another: a return belongs to the innermost one.
func TestDeepProgs(t *testing.T) {
	const deep = 1000
	for wrong := range 3 {
		src, end := "", ""
		for k := range deep {
			if k%2 == 0 {
				src += "val f = prog g(): int { "
				end = "return " + []string{"1", "g()", "<-input"}[k%3] + "; }; " + end
			} else {
				src += "val f = prog g(): bool { "
				end = "return " + []string{"true", "g()", "!g()"}[k%3] + "; }; " + end
			}
		}
		want := api.Fault{}
		if wrong > 0 {
			src += []string{"", "val g = prog() { ", "if true { "}[wrong]
			want = api.Fault{At: len(src), Code: []api.Errno{0, api.ErrCheckReturn, api.ErrCheckType}[wrong]}
			src += "return (1, 2); " + []string{"", "}; ", "} "}[wrong]
		}
		wantOnly(t, parsed(t, src+end), want)
	}
}
