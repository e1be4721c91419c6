package host_test

import (
	"slices"
	"strconv"
	"strings"
	"testing"

	"squint/api"
	"squint/parse"
	"squint/scan"
	"squint/scope"
	"squint/tree"
)

// tokens are the texts of a source's tokens.
func tokens(t *testing.T, src string) (out []string) {
	t.Helper()
	all, fault := scan.Scan([]byte(src))
	if fault.Code != api.OK {
		t.Fatal(src, fault)
	}
	for _, one := range all {
		out = append(out, src[one.At:one.At+one.Len])
	}
	return out
}

// touches tells whether two tokens stay two without anything between them.
func touches(a, b string) bool {
	all, fault := scan.Scan([]byte(a + b))
	return fault.Code == api.OK && len(all) == 2 && all[0].Len == len(a)
}

// blank is what may stand between two tokens.
func (m *maker) blank() string {
	remark := "#" + m.one("", " a remark", "\xff\x00", "val x = 1;", "#") + "\n"
	return m.one(" ", "  ", "\t", "\n", "\r\n", remark, " "+remark+"\t")
}

// spaced is the source of tokens, with any bytes between them that may be there.
func (m *maker) spaced(tokens []string) string {
	var out strings.Builder
	ahead := ""
	for _, one := range tokens {
		if !touches(ahead, one) || m.IntN(3) == 0 {
			out.WriteString(m.blank())
		}
		out.WriteString(one)
		ahead = one
	}
	out.WriteString(m.one("", m.blank(), "# no end"))
	return out.String()
}

// named tells whether a node has the name of a value.
func named(n api.Node) bool {
	return n.Name != "" && slices.Contains([]int{api.EName, api.EProg, api.SVal, api.SVar, api.NParam, api.NRecv}, n.Kind)
}

// renamed turns all names of values but the world's into others, one in one: also into such as others have.
func (m *maker) renamed(nodes []api.Node) []api.Node {
	var old []string
	for _, n := range nodes {
		if named(n) && n.Name != "input" && n.Name != "output" && !slices.Contains(old, n.Name) {
			old = append(old, n.Name)
		}
	}
	names := slices.Clone(old)
	for k := range names {
		if m.IntN(2) == 0 {
			names[k] = m.one("q", "Q", "_", "val_", strings.Repeat("w", 20)) + "_" + strconv.Itoa(k)
		}
	}
	m.Shuffle(len(names), func(a, b int) { names[a], names[b] = names[b], names[a] })
	out := slices.Clone(nodes)
	for k, n := range out {
		if at := slices.Index(old, n.Name); named(n) && at >= 0 {
			out[k].Name = names[at]
		}
	}
	return out
}

// renamedOne turns the name of one declaration into one that stands nowhere else.
func (m *maker) renamedOne(nodes []api.Node) []api.Node {
	names, fault := scope.Names(nodes)
	var all []int
	for k, n := range nodes {
		if named(n) && n.Kind != api.EName {
			all = append(all, k)
		}
	}
	if fault.Code != api.OK || len(all) == 0 {
		return nodes
	}
	at := all[m.IntN(len(all))]
	out := slices.Clone(nodes)
	for k := range out {
		if k == at || names.Ref[k] == at {
			out[k].Name = "nobody_else"
		}
	}
	return out
}

// bare are the expressions that may not be put in parentheses: places, their heads, and what stands right behind case.
func bare(nodes []api.Node) map[int]bool {
	out := map[int]bool{}
	first := func(at int, kinds ...int) {
		for out[at] = true; slices.Contains(kinds, nodes[at].Kind); out[at] = true {
			at = nodes[at].Kids[0]
		}
	}
	for _, n := range nodes {
		switch n.Kind {
		case api.SSet:
			first(n.Kids[0], api.EIndex, api.EField)
		case api.NSend:
			first(n.Kids[0], api.EBin, api.ECall, api.EIndex, api.EField)
		}
	}
	return out
}

// parenthesised puts some expressions in parentheses, one of so many.
func (m *maker) parenthesised(nodes []api.Node, one int) (out []api.Node) {
	not := bare(nodes)
	now := make([]int, len(nodes)) // where a node stands now, with its parentheses
	for k, n := range nodes {
		n.Kids = slices.Clone(n.Kids)
		for j, kid := range n.Kids {
			n.Kids[j] = now[kid]
		}
		out = append(out, n)
		for n.Kind >= api.EInt && n.Kind <= api.EField && !not[k] && m.IntN(one) == 0 {
			out = append(out, api.Node{Kind: api.EParen, Kids: []int{len(out) - 1}})
			if one == 1 {
				break
			}
		}
		now[k] = len(out) - 1
	}
	return out
}

// printed is a tree's source.
func printed(t *testing.T, nodes []api.Node) string {
	t.Helper()
	text, e := tree.Print(nodes)
	if e != api.OK {
		t.Fatal("no tree", nodes)
	}
	return text
}

// alike holds what both runs answer of a source against what they answer of another: the same events, or a fault of the same code.
func alike(t *testing.T, how, src, other string, s api.Script) {
	t.Helper()
	for _, f := range faces {
		a, e := f.run([]byte(src), s)
		b, g := f.run([]byte(other), s)
		a.Fault.At, b.Fault.At = 0, 0
		if one, two := show(a, e), show(b, g); one != two {
			t.Fatalf("%s, %s:\n %s\n %s\n by %v:\n %s\n %s", f.name, how, src, other, s, one, two)
		}
	}
}

// holdTurned: P19.7 of a source, whatever it is, and a script.
func (m *maker) holdTurned(t *testing.T, src string, s api.Script) {
	t.Helper()
	s.Limits.Nest = api.MaxNest
	all := tokens(t, src)
	alike(t, "other blanks", src, m.spaced(all), s)
	nodes, fault := parse.Parse([]byte(src), api.MaxNest)
	if fault.Code != api.OK {
		return
	}
	alike(t, "one blank each", src, printed(t, nodes), s)
	for _, turned := range [][]api.Node{m.renamed(nodes), m.renamedOne(nodes)} {
		alike(t, "names", src, printed(t, turned), s)
	}
	for _, one := range []int{1, 2, 20} {
		alike(t, "parentheses", src, printed(t, m.parenthesised(nodes, one)), s)
	}
	together := m.parenthesised(m.renamedOne(m.renamed(nodes)), 3)
	alike(t, "all together", src, m.spaced(tokens(t, printed(t, together))), s)
}

// P19.7: made programs, and such as are wrong.
func TestTurnedSources(t *testing.T) {
	m := newMaker(7)
	for range 500 {
		x := m.made(t, 50)
		m.holdTurned(t, x.src, x.script)
		m.holdTurned(t, m.spoilt(tokens(t, x.src)), x.script)
	}
}

// P19.7: sources of which one thing is wrong, and the examples.
func TestTurnedExamples(t *testing.T) {
	m := newMaker(8)
	sources := []string{"", rightSource, stage, busy, "var a: array of (int, int); a = fill(3, (1, 2)); a[1].0 = a[0].1; a[a[1].0 - 1] = (a[1].0, 4); output <-= a[1].1; select { case output <-= a[2].0 { } }"}
	for _, wrong := range wrongSources {
		if wrong.code/10 != 1 {
			sources = append(sources, wrong.src)
		}
	}
	for _, src := range sources {
		for range 10 {
			m.holdTurned(t, src, api.Script{Limits: hundred(), Picks: picks(busyPicks + ", out 0, step 0, out 0")})
		}
	}
}

// P19.7: by hand: each place in which an expression stands.
func TestParentheses(t *testing.T) {
	plain := "var a: array of int = fill(2, 1); val c = make chan of int; val f = prog(n: int): int { return n + 1; }; begin f(1); f(2); a[0] = f(len(a)); if a[0] == 3 && true { } while false { } begin prog() { c <-= 5; }(); select { case c <-= 4 { } case x = <-c { output <-= -x; } }"
	full := "var a: array of int = (fill((2), (1))); val c = (make chan of int); val f = (prog(n: int): int { return ((n) + (1)); }); begin ((f)(1)); ((f)((2))); a[(0)] = ((f)((len((a))))); if (((a)[0]) == ((3)) && (true)) { } while (false) { } begin ((prog() { (c) <-= ((5)); })()); select { case c <-= (4) { } case x = <-(c) { ((output)) <-= (-(x)); } }"
	for _, src := range []string{plain, full} {
		told(t, src, hundred(), "step 0, step 0, step 0, step 1, step 1, step 0, step 0, step 0, out 0, step 0", "born 0 1, born 0 2, meet 2 0 0 1 3, exit 1, exit 2, out 0 0 -5, exit 0")
	}
}
