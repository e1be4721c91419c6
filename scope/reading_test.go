package scope_test

import (
	"math/rand/v2"
	"reflect"
	"strconv"
	"strings"
	"testing"

	"squint/api"
	"squint/scope"
	"squint/tree"
)

// reading reads L3 and chapter 5 a second time, without a walk: of two nodes it asks which one is around the other one, and which one stands ahead in the list.
type reading struct {
	l  []api.Node
	up []int // of each node the one whose kid it is; -1 of the program
}

func read(l []api.Node) reading {
	r := reading{l, make([]int, len(l))}
	for i, n := range l {
		r.up[i] = -1
		for _, k := range n.Kids {
			r.up[k] = i
		}
	}
	return r
}

// around tells whether a node is above another one.
func (r reading) around(a, b int) bool {
	for b = r.up[b]; b >= 0; b = r.up[b] {
		if a == b {
			return true
		}
	}
	return false
}

// block is the node that stands for the block in which a declaration declares: parameters' and arms' is that of the SBlock behind them, an own name's is the EProg.
func (r reading) block(decl int) int {
	last := func(i int) int { return r.l[i].Kids[len(r.l[i].Kids)-1] }
	switch r.l[decl].Kind {
	case api.SVal, api.SVar:
		return r.up[decl]
	case api.NParam:
		return last(r.up[decl])
	case api.NRecv:
		return last(decl)
	}
	return decl
}

// ahead tells whether a declaration is one, in the walk, when a later node of its block is come to. In the list an NRecv and an EProg stand behind their blocks.
func (r reading) ahead(decl, i int) bool {
	if kind := r.l[decl].Kind; kind == api.NRecv || kind == api.EProg {
		return r.around(decl, i)
	}
	return decl < i
}

// meant is what an EName means; -1, if nothing.
func (r reading) meant(i int) int {
	best := -1
	for d, n := range r.l {
		if isDecl(n) && n.Name == r.l[i].Name && r.around(r.block(d), i) && r.ahead(d, i) {
			if best < 0 || r.around(r.block(best), r.block(d)) {
				best = d
			}
		}
	}
	switch {
	case best >= 0:
		return best
	case r.l[i].Name == "input":
		return -2
	case r.l[i].Name == "output":
		return -3
	}
	return -1
}

func (r reading) isSet(i int) bool {
	for {
		up := r.up[i]
		if up < 0 || r.l[up].Kids[0] != i {
			return false
		}
		switch r.l[up].Kind {
		case api.SSet:
			return true
		case api.EIndex, api.EField:
			i = up
		default:
			return false
		}
	}
}

func (r reading) twice(i int) bool {
	for d, n := range r.l {
		if d != i && isDecl(n) && n.Name == r.l[i].Name && r.block(d) == r.block(i) && (d < i || n.Kind == api.NRecv) {
			return true
		}
	}
	return false
}

// captures tells whether a prog captures a declaration, if a name in it means that.
func (r reading) captures(prog, decl int) bool {
	return decl != prog && (decl < 0 || !r.around(prog, decl))
}

// code is what is wrong with one node.
func (r reading) code(i int) api.Errno {
	switch r.l[i].Kind {
	case api.SVal, api.SVar, api.NParam:
		if r.twice(i) {
			return api.ErrScopeTwice
		}
	case api.EName:
		decl := r.meant(i)
		if decl == -1 {
			return api.ErrScopeName
		}
		if decl < 0 || r.l[decl].Kind != api.SVar {
			if r.isSet(i) {
				return api.ErrScopeSet
			}
			return api.OK
		}
		for p := r.up[i]; p >= 0; p = r.up[p] {
			if r.l[p].Kind == api.EProg && !r.around(p, decl) {
				return api.ErrScopeCapture
			}
		}
	}
	return api.OK
}

// names answers what Names must; the node that is wrong too. All nodes of which something may be wrong stand in the list as in the walk.
func (r reading) names() (api.Names, int, api.Errno) {
	var names api.Names
	for i, n := range r.l {
		if code := r.code(i); code != api.OK {
			return api.Names{}, i, code
		}
		names.Ref = append(names.Ref, -1)
		names.Free = append(names.Free, nil)
		if n.Kind == api.EName {
			names.Ref[i] = r.meant(i)
		}
		if n.Kind == api.EProg {
			names.Free[i] = r.free(i, names.Ref)
		}
	}
	return names, 0, api.OK
}

func (r reading) free(prog int, refs []int) []int {
	var out []int
	for i, decl := range refs {
		if decl == -1 || !r.around(prog, i) || !r.captures(prog, decl) {
			continue
		}
		again := false
		for _, d := range out {
			again = again || d == decl
		}
		if !again {
			out = append(out, decl)
		}
	}
	return out
}

// wantRead holds Names against the second reading; what that says.
func wantRead(t *testing.T, l []api.Node) (api.Names, api.Errno) {
	t.Helper()
	want, at, code := read(l).names()
	names, f := scope.Names(l)
	wantF := api.Fault{}
	if code != api.OK {
		wantF = api.Fault{At: l[at].At, Code: code}
	}
	if f != wantF || !reflect.DeepEqual(filled(names), filled(want)) {
		text, _ := tree.Print(l)
		t.Fatalf("%q: %v, %v, not %v, %v", text, names, f, want, wantF)
	}
	return names, code
}

// maker makes programs in which a few names are declared and stand wherever they may.
type maker struct {
	*rand.Rand
	pool []string
	deep int // how deep progs and blocks may be in one another
}

func (m maker) one(of ...string) string { return of[m.IntN(len(of))] }

func (m maker) name() string { return m.pool[m.IntN(len(m.pool))] }

// own is a prog's own name, or none.
func (m maker) own() string { return m.one("", " "+m.name()) }

func (m maker) expr(high int) string {
	if high <= 0 || m.IntN(4) == 0 {
		return m.one(m.name(), m.name(), m.name(), "1", "true", "make chan of T")
	}
	a, b := m.expr(high-1), m.expr(high-2)
	switch m.IntN(12) {
	case 0:
		return "(" + a + ")"
	case 1:
		return "(" + a + ", " + b + ")"
	case 2:
		return "[" + a + ", " + b + "]"
	case 3:
		return "fill(" + a + ", " + b + ")"
	case 4:
		return "len(" + a + ")"
	case 5:
		return m.one("-", "!", "<-") + "(" + a + ")"
	case 6:
		return "(" + a + ") " + m.one("+", "==", "&&", "*") + " (" + b + ")"
	case 7:
		return m.name() + "(" + a + ", " + b + ")"
	case 8:
		return m.name() + "[" + a + "]"
	case 9:
		return m.name() + ".1"
	}
	return m.prog(high)
}

func (m maker) prog(high int) string {
	if m.deep <= 0 {
		return m.name()
	}
	m.deep--
	params := m.one("", m.name()+": int", m.name()+": T, "+m.name()+": int")
	return "prog" + m.own() + "(" + params + ")" + m.one("", ": T") + " " + m.block(high)
}

func (m maker) place(high int) string {
	place := m.one(m.name(), m.name(), "("+m.name()+")", m.name()+"()")
	for range m.IntN(3) {
		place += m.one(".0", "["+m.expr(high-1)+"]")
	}
	return place
}

func (m maker) block(high int) string {
	if m.deep <= 0 {
		return "{ }"
	}
	m.deep--
	return "{ " + m.statements(m.IntN(4), high) + " }"
}

func (m maker) arm(high int) string {
	switch m.IntN(3) {
	case 0:
		return "case <-" + m.name() + " " + m.block(high)
	case 1:
		return "case " + m.name() + " = <-" + m.one(m.name(), "("+m.expr(high)+")") + " " + m.block(high)
	}
	return "case (" + m.expr(high) + ") <-= " + m.expr(high) + " " + m.block(high)
}

func (m maker) statement(high int) string {
	switch m.IntN(14) {
	case 0, 1, 2:
		return "val " + m.name() + " = " + m.expr(high) + ";"
	case 3:
		return "var " + m.name() + ": T;"
	case 4:
		return "var " + m.name() + ": (int, T) = " + m.expr(high) + ";"
	case 5:
		return m.place(high) + " = " + m.expr(high) + ";"
	case 6:
		return m.name() + " <-= " + m.expr(high) + ";"
	case 7:
		return m.one("", "return ", "begin ") + m.expr(high) + ";"
	case 8:
		return "if " + m.expr(high) + " " + m.block(high) + m.one("", " else "+m.block(high), " else if "+m.expr(high)+" "+m.block(high)+" else "+m.block(high))
	case 9:
		return "while " + m.expr(high) + " " + m.block(high)
	case 10:
		return "select { " + m.arm(high) + " " + m.one("", m.arm(high)) + " }"
	case 11:
		return m.block(high)
	}
	return m.prog(high) + ";"
}

func (m maker) statements(many, high int) string {
	var out []string
	for range many {
		out = append(out, m.statement(high))
	}
	return strings.Join(out, " ")
}

// mended makes another one of each node, in turn, that is the first of which something is wrong; now and then it stops at one that is not easily come to.
func (m maker) mended(l []api.Node) []api.Node {
	for fresh := 0; ; fresh++ {
		_, at, code := read(l).names()
		one := &l[at]
		switch {
		case code == api.OK, code >= api.ErrScopeSet && m.IntN(5) == 0:
			return l
		case code == api.ErrScopeTwice:
			one.Name = "n" + strconv.Itoa(fresh)
		case m.IntN(4) > 0:
			one.Name = m.name()
		default:
			*one = api.Node{Kind: api.EInt, At: one.At, Num: 1}
		}
	}
}

// eachProgram makes programs with something wrong, mostly; and mended ones.
func eachProgram(t *testing.T, seed uint64, times int, do func(m maker, l []api.Node)) {
	t.Helper()
	all := []string{"a", "b", "input", "c", "T", "output", "d", "e"}
	r := rand.New(rand.NewPCG(5, seed))
	for k := range times {
		m := maker{r, all[:1+r.IntN(len(all))], 2 + r.IntN(7)}
		r.Shuffle(len(m.pool), func(i, k int) { m.pool[i], m.pool[k] = m.pool[k], m.pool[i] })
		l := parsed(t, "type T = int; "+m.statements(1+r.IntN(5), 1+r.IntN(3)))
		if len(l) > 200 {
			continue
		}
		if k%4 > 0 {
			l = m.mended(l)
		}
		do(m, l)
	}
}

// P5.1
func TestMadePrograms(t *testing.T) {
	seen := map[api.Errno]int{}
	captured, most := 0, 0
	eachProgram(t, 1, 15000, func(_ maker, l []api.Node) {
		names, code := wantRead(t, l)
		seen[code]++
		for _, free := range names.Free {
			captured += len(free)
			most = max(most, len(free))
		}
	})
	for _, code := range []api.Errno{api.OK, api.ErrScopeTwice, api.ErrScopeName, api.ErrScopeSet, api.ErrScopeCapture} {
		if seen[code] < 200 {
			t.Errorf("only %d programs with %d", seen[code], code)
		}
	}
	if captured < 5000 || most < 4 {
		t.Errorf("only %d were captured, and %d by one prog", captured, most)
	}
}

// P5.1: all programs of a few pieces, among them blocks of all kinds in one another.
func TestSmallPrograms(t *testing.T) {
	pieces := []string{"val a = b;", "val a = 1;", "var b: int;", "a;", "b = a;", "{", "prog() {", "prog a(b: int) {", "select { case b = <-a {", "}"}
	closers := map[string]string{"{": "}", "prog() {": "};", "prog a(b: int) {": "};", "select { case b = <-a {": "} }"}
	seen := map[api.Errno]int{}
	var grow func(src string, open []string, left int)
	grow = func(src string, open []string, left int) {
		whole := src
		for k := len(open) - 1; k >= 0; k-- {
			whole += open[k]
		}
		_, code := wantRead(t, parsed(t, whole))
		seen[code]++
		if left == 0 {
			return
		}
		for _, piece := range pieces {
			closer, opens := closers[piece]
			switch {
			case opens:
				grow(src+piece+" ", append(open[:len(open):len(open)], closer), left-1)
			case piece != "}":
				grow(src+piece+" ", open, left-1)
			case len(open) > 0:
				grow(src+open[len(open)-1]+" ", open[:len(open)-1], left-1)
			}
		}
	}
	grow("", nil, 4)
	grow("val a = 1; var b: int; ", nil, 4)
	grow("val a = 1; val b = 2; prog() { ", []string{"};"}, 4)
	for _, code := range []api.Errno{api.OK, api.ErrScopeTwice, api.ErrScopeName, api.ErrScopeSet, api.ErrScopeCapture} {
		if seen[code] < 200 {
			t.Errorf("only %d programs with %d", seen[code], code)
		}
	}
}
