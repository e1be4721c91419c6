package scope_test

import (
	"reflect"
	"slices"
	"strconv"
	"testing"

	"squint/api"
	"squint/scope"
	"squint/tree"
)

// eachTaken makes programs of which nothing is wrong.
func eachTaken(t *testing.T, seed uint64, times int, do func(m maker, l []api.Node, names api.Names)) {
	t.Helper()
	taken := 0
	eachProgram(t, seed, times, func(m maker, l []api.Node) {
		names, f := scope.Names(l)
		if f.Code == api.OK {
			taken++
			do(m, l, names)
		}
	})
	if taken < times/4 {
		t.Errorf("only %d of %d programs were taken", taken, times)
	}
}

// begins tells of each node when the walk comes to it, and when it leaves it.
func begins(l []api.Node) (come, leave []int) {
	come, leave = make([]int, len(l)), make([]int, len(l))
	time := 0
	var visit func(i int)
	visit = func(i int) {
		come[i] = time
		time++
		for _, k := range l[i].Kids {
			visit(k)
		}
		leave[i] = time
		time++
	}
	visit(len(l) - 1)
	return come, leave
}

// P5.2
func TestMeaningsStandAhead(t *testing.T) {
	eachTaken(t, 2, 4000, func(_ maker, l []api.Node, names api.Names) {
		r := read(l)
		come, leave := begins(l)
		for i, n := range l {
			decl := names.Ref[i]
			switch {
			case n.Kind != api.EName && decl == -1:
			case decl == -2 && n.Name == "input" && n.Kind == api.EName:
			case decl == -3 && n.Name == "output" && n.Kind == api.EName:
			case n.Kind != api.EName || decl < 0 || !isDecl(l[decl]) || l[decl].Name != n.Name:
				t.Fatalf("node %d, %v, means %d", i, n, decl)
			case l[decl].Kind == api.NRecv && !(leave[l[decl].Kids[0]] < come[i] && come[i] < leave[decl]):
				t.Fatalf("node %d means %d, an arm's name, outside of its block", i, decl)
			case l[decl].Kind == api.EProg && !(come[decl] < come[i] && come[i] < leave[decl]):
				t.Fatalf("node %d means %d, an own name, outside of its prog", i, decl)
			case l[decl].Kind != api.NRecv && l[decl].Kind != api.EProg && leave[decl] > come[i]:
				t.Fatalf("node %d means %d, which is not ahead of it", i, decl)
			case l[decl].Kind == api.SVar:
				for p := r.up[i]; p >= 0; p = r.up[p] {
					if l[p].Kind == api.EProg && !r.around(p, decl) {
						t.Fatalf("node %d means %d, an SVar outside of the prog %d", i, decl, p)
					}
				}
			}
		}
	})
}

// P5.3
func TestInnerAndOuter(t *testing.T) {
	handed, kept := 0, 0
	eachTaken(t, 3, 6000, func(_ maker, l []api.Node, names api.Names) {
		r := read(l)
		for inner, free := range names.Free {
			if slices.Contains(free, inner) {
				t.Fatalf("the prog %d captures itself", inner)
			}
			for _, decl := range free {
				if decl >= 0 && l[decl].Kind == api.SVar {
					t.Fatalf("the prog %d captures %d, an SVar", inner, decl)
				}
				for outer := r.up[inner]; outer >= 0; outer = r.up[outer] {
					if l[outer].Kind != api.EProg {
						continue
					}
					has := slices.Contains(names.Free[outer], decl)
					if has != r.captures(outer, decl) {
						t.Fatalf("the prog %d captures %d, the one around it, %d: %v", inner, decl, outer, has)
					}
					if has {
						handed++
					} else {
						kept++
					}
				}
			}
		}
	})
	if handed < 200 || kept < 200 {
		t.Errorf("only %d of an inner prog's that the outer one captures, and %d that it declares", handed, kept)
	}
}

// otherwise changes what chapter 5 does not see: At, names of types, Num of nodes that have no block; as far as tree.Check takes it.
func (m maker) otherwise(l []api.Node) []api.Node {
	out := copyOf(l)
	for i := range out {
		old := out[i]
		one := &out[i]
		one.At = m.IntN(1 << 40)
		switch one.Kind {
		case api.TName, api.NType:
			one.Name = m.one("a", "b", "T", "input", "output", "x")
		case api.EInt, api.EField:
			one.Num = m.Int()
		case api.EBool, api.TProg:
			one.Num = m.IntN(2)
		case api.EUnary:
			one.Num = 1 + m.IntN(3)
		case api.EBin:
			one.Num = 11 + m.IntN(33)
		}
		if _, code := tree.Check(out); code != api.OK {
			one.Num, one.Name = old.Num, old.Name
		}
	}
	return out
}

// P5.4
func TestWhatIsNotSeen(t *testing.T) {
	refused := 0
	eachProgram(t, 4, 4000, func(m maker, l []api.Node) {
		for i := range l {
			l[i].At = i
		}
		names, f := scope.Names(l)
		other := m.otherwise(l)
		if _, code := tree.Check(other); code != api.OK {
			t.Fatalf("Check: %d", code)
		}
		names2, f2 := scope.Names(other)
		if f.Code != api.OK {
			refused++
			f.At = other[f.At].At
		}
		if f2 != f || !reflect.DeepEqual(filled(names), filled(names2)) {
			text, _ := tree.Print(l)
			text2, _ := tree.Print(other)
			t.Fatalf("%q: %v, %v\n%q: %v, %v", text, names, f, text2, names2, f2)
		}
	})
	if refused < 500 {
		t.Errorf("only %d programs were refused", refused)
	}
}

// renamed gives all declarations of a name, and what means them, another name.
func renamed(l []api.Node, names api.Names, from, to string) []api.Node {
	out := copyOf(l)
	for i, n := range l {
		if n.Name == from && (isDecl(n) || names.Ref[i] >= 0) {
			out[i].Name = to
		}
	}
	return out
}

// P5.5: also to input and output, where they stand nowhere else; and what means input itself is not renamed.
func TestRenamed(t *testing.T) {
	to := map[string]int{}
	from := map[string]int{}
	eachTaken(t, 5, 6000, func(m maker, l []api.Node, names api.Names) {
		var decls []string
		stands := map[string]bool{}
		for _, n := range l {
			stands[n.Name] = true
			if isDecl(n) {
				decls = append(decls, n.Name)
			}
		}
		if len(decls) == 0 {
			return
		}
		old := decls[m.IntN(len(decls))]
		for _, fresh := range []string{"z", "input", "output", old + "_", "_"} {
			if stands[fresh] {
				continue
			}
			from[old]++
			to[fresh]++
			names2, f := scope.Names(renamed(l, names, old, fresh))
			if f != (api.Fault{}) || !reflect.DeepEqual(filled(names), filled(names2)) {
				text, _ := tree.Print(l)
				t.Fatalf("%q, with %s for %s: %v, %v, not %v", text, fresh, old, names2, f, names)
			}
		}
	})
	if to["input"] < 100 || to["output"] < 100 || from["input"] < 100 || from["output"] < 100 {
		t.Errorf("%v became %v", from, to)
	}
}

func copyOf(l []api.Node) []api.Node {
	out := append([]api.Node(nil), l...)
	for i := range out {
		out[i].Kids = append([]int(nil), out[i].Kids...)
	}
	return out
}

// spoilt changes one thing of one node, or takes one away, or puts signs in the place of parentheses.
func (m maker) spoilt(l []api.Node) []api.Node {
	out := copyOf(l)
	k := m.IntN(len(out))
	one := &out[k]
	switch m.IntN(8) {
	case 0:
		one.Kind = m.IntN(48)
	case 1:
		one.At = -1 - m.IntN(2)
	case 2:
		one.Name = m.one("", "val", "a", "9")
	case 3:
		one.Num += m.IntN(3) - 1
	case 4:
		one.Kids = append(one.Kids, m.IntN(len(out)+1)-1)
	case 5:
		one.Kids = one.Kids[:max(0, len(one.Kids)-1)]
	case 6:
		out = append(out[:k], out[k+1:]...)
	case 7:
		for i := range out {
			if out[i].Kind == api.EParen {
				out[i].Kind, out[i].Num = api.EUnary, api.OpNot
			}
		}
	}
	return out
}

// R8: ahead of all that is wrong with names.
func TestWrongLists(t *testing.T) {
	wrong := map[api.Errno]int{}
	eachProgram(t, 6, 8000, func(m maker, l []api.Node) {
		l = m.spoilt(l)
		at, code := tree.Check(l)
		wrong[code]++
		if code == api.OK {
			wantRead(t, l)
			return
		}
		wantRefused(t, l, api.Fault{At: at, Code: code})
	})
	for code := api.ErrTreeNode; code <= api.ErrTreeRoot; code++ {
		if wrong[code] < 10 {
			t.Errorf("only %d lists with %d", wrong[code], code)
		}
	}
}

// fullRoom is a list with spare room behind its end that is full of marks, and the whole of it.
func fullRoom(l []api.Node) ([]api.Node, []api.Node) {
	whole := append(copyOf(l), api.Node{Kind: -7}, api.Node{Kind: -8})
	for i := range l {
		kids := append(append([]int(nil), l[i].Kids...), -7, -8)
		whole[i].Kids = kids[:len(l[i].Kids)]
	}
	return whole[:len(l)], whole
}

// R4, R5: what is handed in stays; what is answered is one's own, and always the same.
func TestMemory(t *testing.T) {
	eachProgram(t, 7, 2000, func(_ maker, l []api.Node) {
		given, whole := fullRoom(l)
		_, keep := fullRoom(l)
		names, f := scope.Names(given)
		names2, f2 := scope.Names(given)
		for i := range names.Free {
			scribble(names.Free[i])
			if !reflect.DeepEqual(names.Free[i+1:], names2.Free[i+1:]) || !reflect.DeepEqual(names.Ref, names2.Ref) {
				t.Fatalf("what %d captures shares memory with another list", i)
			}
		}
		scribble(names.Ref)
		names3, f3 := scope.Names(given)
		if f2 != f || f3 != f || !reflect.DeepEqual(names2, names3) {
			t.Fatalf("%v, %v and then %v, %v", names2, f2, names3, f3)
		}
		if !reflect.DeepEqual(whole, keep) {
			t.Fatalf("the list was changed: %v, %v", whole, keep)
		}
		for i := range l {
			if n := len(l[i].Kids); !reflect.DeepEqual(whole[i].Kids[:n+2], keep[i].Kids[:n+2]) {
				t.Fatalf("the room behind the kids of %d was changed", i)
			}
		}
	})
}

func scribble(list []int) {
	list = list[:cap(list)]
	for i := range list {
		list[i] = -99
	}
}

// add puts a node behind a list.
func add(l []api.Node, kind int, name string, num int, kids ...int) []api.Node {
	return append(l, api.Node{Kind: kind, At: len(l), Kids: kids, Name: name, Num: num})
}

// around puts a node behind a list, whose last one is its only kid.
func around(l []api.Node, kind int, name string) []api.Node {
	return add(l, kind, name, 0, len(l)-1)
}

// wantOnly is for lists that are too long to be told.
func wantOnly(t *testing.T, l []api.Node, want api.Fault) api.Names {
	t.Helper()
	names, f := scope.Names(l)
	if f != want || want.Code != api.OK && (len(names.Ref) != 0 || len(names.Free) != 0) {
		t.Fatalf("%v, not %v", f, want)
	}
	return names
}

// R1: as many parts in one another as R9 speaks of.
func TestDeep(t *testing.T) {
	const high = 1 << 16
	for _, name := range []string{"input", "x"} {
		want := api.Fault{}
		if name == "x" {
			want.Code = api.ErrScopeName
		}
		for _, kind := range []int{api.EParen, api.ELen, api.ECall, api.EArray} {
			l := add(nil, api.EName, name, 0)
			for range high - 3 {
				l = around(l, kind, "")
			}
			wantOnly(t, around(around(l, api.SDo, ""), api.NProgram, ""), want)
		}
		l := around(add(nil, api.EName, name, 0), api.SDo, "")
		for range high - 3 {
			l = around(l, api.SBlock, "")
		}
		wantOnly(t, around(l, api.NProgram, ""), want)
	}
}

// Progs in one another, as deep as may be; the innermost one's names are those of all others, and one of the program's.
func TestDeepProgs(t *testing.T) {
	const high = (1<<16 - 5) / 3
	l := around(add(nil, api.EName, "p7", 0), api.SDo, "")
	l = around(add(l, api.EName, "output", 0), api.SDo, "")
	l = add(l, api.SBlock, "", 0, 1, 3)
	for k := range high {
		l = around(l, api.EProg, "p"+strconv.Itoa(high-1-k))
		if k < high-1 {
			l = around(around(l, api.SDo, ""), api.SBlock, "")
		}
	}
	l = around(around(l, api.SDo, ""), api.NProgram, "")
	names := wantOnly(t, l, api.Fault{})
	seen := 0
	for i, n := range l {
		if n.Kind != api.EProg {
			continue
		}
		want := []int{names.Ref[0], -3}
		if at, _ := strconv.Atoi(n.Name[1:]); at <= 7 {
			want = []int{-3}
		}
		if seen++; !slices.Equal(names.Free[i], want) {
			t.Fatalf("%s captures %v", n.Name, names.Free[i])
		}
	}
	if seen != high || l[names.Ref[0]].Name != "p7" {
		t.Errorf("%d progs, and the name means %v", seen, l[names.Ref[0]])
	}
	l[0].Name = "p"
	wantOnly(t, l, api.Fault{Code: api.ErrScopeName})
}

// Each prog of many in one another captures all own names outside of it: each once, though they stand twice.
func TestManyCaptured(t *testing.T) {
	const many = 700
	src, end := "", ""
	for k := range many {
		src += "prog p" + strconv.Itoa(k) + "() { "
		end += " };"
	}
	for range 2 {
		for k := range many {
			src += "p" + strconv.Itoa(many-1-k) + "; "
		}
	}
	l := parsed(t, src+end)
	names := wantOnly(t, l, api.Fault{})
	for i, n := range l {
		if n.Kind != api.EProg {
			continue
		}
		deep, _ := strconv.Atoi(n.Name[1:])
		if len(names.Free[i]) != deep {
			t.Fatalf("%s captures %d", n.Name, len(names.Free[i]))
		}
		for k, decl := range names.Free[i] {
			if l[decl].Name != "p"+strconv.Itoa(deep-1-k) {
				t.Fatalf("%s captures %s as its number %d", n.Name, l[decl].Name, k)
			}
		}
	}
}

// One name, many times: in blocks in one another, each of which hides the one around it.
func TestManyOfOneName(t *testing.T) {
	const many = 3000
	src, end := "", ""
	for range many {
		src += "{ val x = x; "
		end += "x; } "
	}
	l := parsed(t, "val x = 1; "+src+end+"x;")
	names := wantOnly(t, l, api.Fault{})
	var decls, refs []int
	for i, n := range l {
		switch n.Kind {
		case api.SVal:
			decls = append(decls, i)
		case api.EName:
			refs = append(refs, names.Ref[i])
		}
	}
	// On the way in each means the one around; on the way out each block's own.
	want := slices.Clone(decls[:many])
	slices.Reverse(decls)
	if want = append(want, decls...); !slices.Equal(refs, want) {
		t.Error("not as the blocks are in one another")
	}
}
