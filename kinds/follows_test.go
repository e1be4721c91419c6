package kinds_test

import (
	"math/rand/v2"
	"reflect"
	"strconv"
	"strings"
	"testing"

	"squint/api"
	"squint/kinds"
	"squint/tree"
)

// maker makes sources in which names of types stand wherever they may.
type maker struct {
	*rand.Rand
	names []string // what a type's name may be
	loose int      // how often, of 10 times, a type is a name or a tuple
}

func (m maker) name() string { return m.names[m.IntN(len(m.names))] }

func (m maker) typ(deep int) string {
	if deep <= 0 {
		return []string{"int", "bool", m.name(), m.name()}[m.IntN(4)]
	}
	if m.IntN(10) < m.loose {
		if m.IntN(2) == 0 {
			return m.name()
		}
		return "(" + m.types(2+m.IntN(2), deep-1) + ")"
	}
	switch m.IntN(5) {
	case 0:
		return "array of " + m.typ(deep-1)
	case 1:
		return "chan of " + m.typ(deep-1)
	case 2:
		return "prog(" + m.types(m.IntN(3), deep-1) + ")"
	case 3:
		return "prog(" + m.types(m.IntN(3), deep-1) + "): " + m.typ(deep-1)
	}
	return m.typ(0)
}

func (m maker) types(n, deep int) string {
	var out []string
	for range n {
		out = append(out, m.typ(deep))
	}
	return strings.Join(out, ", ")
}

func (m maker) statement(deep int) string {
	if deep <= 0 {
		return "x;"
	}
	switch m.IntN(6) {
	case 0:
		return "var x: " + m.typ(2) + ";"
	case 1:
		return "val x = make chan of " + m.typ(2) + ";"
	case 2:
		return "val x = prog(a: " + m.typ(1) + ", b: " + m.typ(1) + "): " + m.typ(1) + " { " + m.statement(deep-1) + " };"
	case 3:
		return "if x { " + m.statement(deep-1) + " } else { " + m.statement(deep-1) + " }"
	case 4:
		return "select { case <-c { " + m.statement(deep-1) + " } case c <-= [prog(a: " + m.typ(1) + ") { }] { } }"
	}
	return "x = 1;"
}

// source declares names, now and then one of them not, or twice, in any order.
func (m maker) source() string {
	var out []string
	for _, k := range m.Perm(len(m.names)) {
		for range []int{1, 1, 1, 1, 1, 1, 1, 1, 1, 1, 0, 2}[m.IntN(12)] {
			out = append(out, "type "+m.names[k]+" = "+m.typ(m.IntN(3))+";")
		}
	}
	m.Shuffle(len(out), func(i, k int) { out[i], out[k] = out[k], out[i] })
	for range m.IntN(4) {
		out = append(out, m.statement(3))
	}
	return strings.Join(out, " ")
}

func eachSource(t *testing.T, seed uint64, times int, do func(m maker, l []api.Node)) {
	t.Helper()
	all := []string{"A", "B", "C", "D", "E", "F", "G"}
	r := rand.New(rand.NewPCG(4, seed))
	for range times {
		m := maker{r, all[:1+r.IntN(len(all))], r.IntN(11)}
		do(m, parsed(t, m.source()))
	}
}

func isType(n api.Node) bool { return n.Kind >= api.TInt && n.Kind <= api.TProg }

// before tells whether a declaration of a name stands ahead of the node i, and which node its type is.
func before(l []api.Node, i int, name string) (int, bool) {
	for _, n := range l[:i] {
		if n.Kind == api.NType && n.Name == name {
			return n.Kids[0], true
		}
	}
	return 0, false
}

// has tells whether a type node is, or has by way of tuples and names alone, a TName of a name; been are the nodes on which it has looked.
func has(l []api.Node, i int, name string, been map[int]bool) bool {
	if been[i] {
		return false
	}
	been[i] = true
	if l[i].Kind == api.TName {
		next, _ := before(l, len(l), l[i].Name)
		return l[i].Name == name || has(l, next, name, been)
	}
	if l[i].Kind != api.TTuple {
		return false
	}
	for _, k := range l[i].Kids {
		if has(l, k, name, been) {
			return true
		}
	}
	return false
}

// plainFault reads the three errors of P4.1 a second time, each as it stands there.
func plainFault(l []api.Node) api.Fault {
	for i, n := range l {
		if _, twice := before(l, i, n.Name); n.Kind == api.NType && twice {
			return api.Fault{At: n.At, Code: api.ErrKindTwice}
		}
	}
	for _, n := range l {
		if _, known := before(l, len(l), n.Name); n.Kind == api.TName && !known {
			return api.Fault{At: n.At, Code: api.ErrKindName}
		}
	}
	for _, n := range l {
		if n.Kind == api.NType && has(l, n.Kids[0], n.Name, map[int]bool{}) {
			return api.Fault{At: n.At, Code: api.ErrKindOpen}
		}
	}
	return api.Fault{}
}

// plainRow is the row of a type node: its own is the number of those of the same sort ahead of it.
func plainRow(l []api.Node, i int) int {
	if l[i].Kind == api.TName {
		next, _ := before(l, len(l), l[i].Name)
		return plainRow(l, next)
	}
	row := 0
	for _, n := range l[:i] {
		if isType(n) && n.Kind != api.TName {
			row++
		}
	}
	return row
}

// plainTable reads the rest of P4.1 a second time.
func plainTable(l []api.Node) ([]api.Type, []int) {
	kind := map[int]int{
		api.TInt: api.KInt, api.TBool: api.KBool, api.TArray: api.KArray, api.TTuple: api.KTuple, api.TChan: api.KChan, api.TProg: api.KProg,
	}
	rows, of := []api.Type{}, []int{}
	for i, n := range l {
		if !isType(n) {
			of = append(of, -1)
			continue
		}
		of = append(of, plainRow(l, i))
		if n.Kind == api.TName {
			continue
		}
		one := api.Type{Kind: kind[n.Kind], Kids: []int{}, Res: n.Kind == api.TProg && n.Num == 1}
		for _, k := range n.Kids {
			one.Kids = append(one.Kids, plainRow(l, k))
		}
		rows = append(rows, one)
	}
	return rows, of
}

// filled is a table without nil lists, as R3 lets one be the other.
func filled(rows []api.Type) []api.Type {
	out := []api.Type{}
	for _, r := range rows {
		out = append(out, api.Type{Kind: r.Kind, Kids: append([]int{}, r.Kids...), Res: r.Res})
	}
	return out
}

// P4.1, against a second reading.
func TestMadeSources(t *testing.T) {
	seen := map[api.Errno]int{}
	eachSource(t, 1, 20000, func(_ maker, l []api.Node) {
		want := plainFault(l)
		seen[want.Code]++
		if want.Code != api.OK {
			wantRefused(t, l, want)
			return
		}
		rows, of, f := kinds.Table(l)
		wantRows, wantOf := plainTable(l)
		if f != want || !reflect.DeepEqual(filled(rows), wantRows) || !reflect.DeepEqual(append([]int{}, of...), wantOf) {
			text, _ := tree.Print(l)
			t.Fatalf("%q: %v, %v, %v, not %v, %v", text, rows, of, f, wantRows, wantOf)
		}
	})
	for _, code := range []api.Errno{api.OK, api.ErrKindTwice, api.ErrKindName, api.ErrKindOpen} {
		if seen[code] < 1000 {
			t.Errorf("only %d sources with %d", seen[code], code)
		}
	}
}

// Every way in which four names may stand in each other's types, two at most in each.
func TestSmallRounds(t *testing.T) {
	names := []string{"A", "B", "C", "D"}
	types := []string{"int"}
	for _, a := range names {
		types = append(types, a, "array of "+a)
		for _, b := range names {
			if a < b {
				types = append(types, "("+a+", "+b+")")
			}
		}
	}
	n := len(types)
	for k := range n * n * n * n {
		src, left := "", k
		for _, name := range names {
			src += "type " + name + " = " + types[left%n] + ";"
			left /= n
		}
		l := parsed(t, src)
		if _, _, f := kinds.Table(l); f != plainFault(l) {
			t.Fatalf("%q: %v, not %v", src, f, plainFault(l))
		}
	}
}

// comesBack tells whether by way of KTuple rows alone one row is reached from another one.
func comesBack(rows []api.Type, from, to int, been map[int]bool) bool {
	if rows[from].Kind != api.KTuple || been[from] {
		return false
	}
	been[from] = true
	for _, kid := range rows[from].Kids {
		if kid == to || comesBack(rows, kid, to, been) {
			return true
		}
	}
	return false
}

// P4.6
func TestTableIsValid(t *testing.T) {
	taken := 0
	eachSource(t, 2, 6000, func(_ maker, l []api.Node) {
		rows, of, f := kinds.Table(l)
		if f.Code != api.OK {
			return
		}
		taken++
		if !kinds.Valid(rows) {
			t.Fatalf("%v is not valid", rows)
		}
		for i := range rows {
			if comesBack(rows, i, i, map[int]bool{}) {
				t.Fatalf("%v: %d comes back to itself", rows, i)
			}
		}
		for i, n := range l {
			if isType(n) != (of[i] >= 0) || of[i] >= len(rows) {
				t.Fatalf("node %d, of kind %d, has row %d of %d", i, n.Kind, of[i], len(rows))
			}
		}
	})
	if taken < 1000 {
		t.Errorf("only %d sources were taken", taken)
	}
}

// P4.5: of the rows of programs too Same tells what ways tell.
func TestSameOfSources(t *testing.T) {
	pairs := 0
	eachSource(t, 3, 1500, func(_ maker, l []api.Node) {
		rows, _, f := kinds.Table(l)
		if f.Code != api.OK || len(rows) > 12 {
			return
		}
		told := apart(rows)
		for a := range rows {
			for b := range rows {
				if a != b && !told[a][b] && rows[a].Kind >= api.KArray {
					pairs++
				}
				if kinds.Same(rows, a, b) == told[a][b] {
					t.Fatalf("Same(%v, %d, %d)", rows, a, b)
				}
			}
		}
	})
	if pairs < 50 {
		t.Errorf("only %d pairs of rows with parts were the same", pairs)
	}
}

// L4: a name put in the place of its type, or the other way round, is the same type.
func TestNamesAndTypes(t *testing.T) {
	for _, x := range []struct {
		a, b string
		want bool
	}{
		{"T", "U", true}, {"T", "chan of T", true}, {"chan of chan of chan of U", "T", true},
		{"array of T", "array of U", true}, {"array of T", "chan of U", false},
		{"prog(T): U", "prog(U): T", true}, {"prog(T, U)", "prog(T): U", false}, {"prog()", "prog(): T", false},
		{"L", "(int, array of L)", true}, {"L", "(int, array of (int, array of M))", true}, {"L", "M", true}, {"L", "(int, array of bool)", false},
		{"N", "L", false}, {"N", "(N, N)", false}, {"N", "array of N", true}, {"int", "I", true}, {"I", "bool", false},
		{"P", "prog(P, P)", true}, {"P", "Q", false}, {"Q", "prog(P): P", false}, {"Q", "prog(Q): Q", true},
		{"(I, bool)", "(int, bool)", true}, {"(bool, I)", "(int, bool)", false}, {"(int, int)", "(int, int, int)", false},
	} {
		l := parsed(t, "type T = chan of T; type U = chan of chan of U; type L = (int, array of M); type M = (int, array of L); type N = array of N;"+
			"type I = int; type P = prog(P, P); type Q = prog(Q): Q; var a: "+x.a+"; var b: "+x.b+";")
		rows, of, f := kinds.Table(l)
		if f.Code != api.OK {
			t.Fatalf("%q, %q: %v", x.a, x.b, f)
		}
		var vars []int
		for _, n := range l {
			if n.Kind == api.SVar {
				vars = append(vars, of[n.Kids[0]])
			}
		}
		if kinds.Same(rows, vars[0], vars[1]) != x.want {
			t.Errorf("%q, %q: not %v", x.a, x.b, x.want)
		}
	}
}

func copyOf(l []api.Node) []api.Node {
	out := append([]api.Node(nil), l...)
	for i := range out {
		out[i].Kids = append([]int(nil), out[i].Kids...)
	}
	return out
}

// spoilt changes one thing of one node, or takes one away.
func (m maker) spoilt(l []api.Node) []api.Node {
	out := copyOf(l)
	k := m.IntN(len(out))
	one := &out[k]
	switch m.IntN(7) {
	case 0:
		one.Kind = m.IntN(48)
	case 1:
		one.At = -1 - m.IntN(2)
	case 2:
		one.Name = []string{"", "type", "A", "9"}[m.IntN(4)]
	case 3:
		one.Num += m.IntN(3) - 1
	case 4:
		one.Kids = append(one.Kids, m.IntN(len(out)+1)-1)
	case 5:
		one.Kids = one.Kids[:max(0, len(one.Kids)-1)]
	case 6:
		out = append(out[:k], out[k+1:]...)
	}
	return out
}

// R8
func TestWrongLists(t *testing.T) {
	wrong := map[api.Errno]int{}
	eachSource(t, 5, 20000, func(m maker, l []api.Node) {
		l = m.spoilt(l)
		at, code := tree.Check(l)
		if code == api.OK {
			if _, _, f := kinds.Table(l); f != plainFault(l) {
				t.Fatalf("%v: %v", l, f)
			}
			return
		}
		wrong[code]++
		wantRefused(t, l, api.Fault{At: at, Code: code})
	})
	for code := api.ErrTreeNode; code <= api.ErrTreeRoot; code++ {
		if wrong[code] < 10 && code != api.ErrTreeLevel {
			t.Errorf("only %d lists with %d", wrong[code], code)
		}
	}
}

// A list that is no program, but whose types go round, is told of as no program.
func TestWrongListOfRounds(t *testing.T) {
	l := parsed(t, "type A = A; type A = U; 1 + 2;")
	for i := range l {
		if l[i].Kind == api.EBin {
			l[i].Num = 99
			wantRefused(t, l, api.Fault{At: i, Code: api.ErrTreeNum})
		}
	}
	l = parsed(t, "type A = A; type A = U; (1 + 2) * 3;")
	for i := range l {
		if l[i].Kind == api.EParen {
			short := append(copyOf(l)[:i:i], copyOf(l)[i+1:]...)
			for k := i; k < len(short); k++ {
				for j := range short[k].Kids {
					if short[k].Kids[j] >= i {
						short[k].Kids[j]--
					}
				}
			}
			wantRefused(t, short, api.Fault{At: i + 1, Code: api.ErrTreeLevel})
		}
	}
}

// fullRoom is a list with spare room behind its end that is full of marks, and the whole of it.
func fullRoom(l []api.Node) ([]api.Node, []api.Node) {
	whole := append(copyOf(l), api.Node{Kind: -7}, api.Node{Kind: -8})
	for i := range l {
		kids := append(append([]int(nil), l[i].Kids...), -7, -8)
		whole[i].Kids = kids[:len(l[i].Kids)]
	}
	return whole[:len(l)], whole
}

// R4, R5: what is handed in stays; what is answered is one's own, and always the same.
func TestMemory(t *testing.T) {
	eachSource(t, 6, 2000, func(_ maker, l []api.Node) {
		given, whole := fullRoom(l)
		_, keep := fullRoom(l)
		rows, of, f := kinds.Table(given)
		if !reflect.DeepEqual(whole, keep) {
			t.Fatalf("the list was changed: %v, %v", whole, keep)
		}
		for i := range whole[:len(l)] {
			if n := len(l[i].Kids); !reflect.DeepEqual(whole[i].Kids[:n+2], keep[i].Kids[:n+2]) {
				t.Fatalf("the room behind the kids of %d was changed", i)
			}
		}
		rows2, of2, f2 := kinds.Table(given)
		for i := range rows {
			scribble(rows[i].Kids)
			rest := rows[i+1:]
			if rest2 := rows2[i+1:]; !reflect.DeepEqual(filled(rest), filled(rest2)) {
				t.Fatalf("row %d shares its list with another one", i)
			}
		}
		scribble(of)
		rows3, of3, f3 := kinds.Table(given)
		if f2 != f || f3 != f || !reflect.DeepEqual(rows2, rows3) || !reflect.DeepEqual(of2, of3) || !reflect.DeepEqual(whole, keep) {
			t.Fatalf("%v, %v, %v and then %v, %v, %v", rows2, of2, f2, rows3, of3, f3)
		}
	})
}

func scribble(list []int) {
	list = list[:cap(list)]
	for i := range list {
		list[i] = -99
	}
}

// chain declares n names, each of the next one, and the last one of some type.
func chain(n int, last api.Node) []api.Node {
	program := api.Node{Kind: api.NProgram, Num: n}
	var l []api.Node
	for k := range n {
		typ := api.Node{Kind: api.TName, Name: "n" + strconv.Itoa(k+1)}
		if k == n-1 {
			typ = last
		}
		l = append(l, typ, api.Node{Kind: api.NType, At: 10 * k, Kids: []int{2 * k}, Name: "n" + strconv.Itoa(k)})
		program.Kids = append(program.Kids, 2*k+1)
	}
	return append(l, program)
}

// R1: names that lead to names, on and on.
func TestLongChains(t *testing.T) {
	const n = 1 << 18
	rows, of, f := kinds.Table(chain(n, api.Node{Kind: api.TBool}))
	if f != (api.Fault{}) || told(rows) != "bool" {
		t.Fatalf("%v, %v", told(rows), f)
	}
	for i, row := range of {
		want := -1
		if i%2 == 0 && i < 2*n {
			want = 0
		}
		if row != want {
			t.Fatalf("node %d has row %d", i, row)
		}
	}
	for _, back := range []int{0, 1, n / 2, n - 1} {
		wantFaultOnly(t, chain(n, api.Node{Kind: api.TName, Name: "n" + strconv.Itoa(back)}), api.Fault{At: 10 * back, Code: api.ErrKindOpen})
	}
	wantFaultOnly(t, chain(n, api.Node{Kind: api.TName, At: 77, Name: "n" + strconv.Itoa(n)}), api.Fault{At: 77, Code: api.ErrKindName})
}

// wantFaultOnly is wantRefused for lists that are too long to be told.
func wantFaultOnly(t *testing.T, l []api.Node, want api.Fault) {
	t.Helper()
	if rows, of, f := kinds.Table(l); f != want || len(rows) != 0 || len(of) != 0 {
		t.Errorf("%v, %d rows, %d nodes' rows, not %v", f, len(rows), len(of), want)
	}
}

// nested is one declaration, of T, with so many tuples in one another, and a T in the innermost.
func nested(high, innermost int) []api.Node {
	l := []api.Node{{Kind: api.TName, Name: "T"}}
	if innermost != api.TName {
		l = append(l, api.Node{Kind: innermost, Kids: []int{0}})
	}
	for range high {
		inner := len(l) - 1
		l = append(l, api.Node{Kind: api.TInt}, api.Node{Kind: api.TTuple, Kids: []int{inner, inner + 1}})
	}
	l = append(l, api.Node{Kind: api.NType, At: 5, Name: "T", Kids: []int{len(l) - 1}})
	return append(l, api.Node{Kind: api.NProgram, Num: 1, Kids: []int{len(l) - 1}})
}

func TestDeepTypes(t *testing.T) {
	const high = 1<<16 - 4
	wantFaultOnly(t, nested(high, api.TName), api.Fault{At: 5, Code: api.ErrKindOpen})
	rows, of, f := kinds.Table(nested(high, api.TChan))
	if f != (api.Fault{}) || len(rows) != 2*high+1 || rows[0].Kind != api.KChan || rows[0].Kids[0] != 2*high || of[0] != 2*high || of[2*high+1] != 2*high {
		t.Fatalf("%v, %d rows", f, len(rows))
	}
	if !kinds.Same(rows, 2*high, 2*high) || kinds.Same(rows, 2*high, 2*high-2) {
		t.Error("Same of deep tuples")
	}
}
