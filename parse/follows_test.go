package parse_test

import (
	"math"
	"math/rand/v2"
	"reflect"
	"strings"
	"testing"

	"squint/api"
	"squint/parse"
	"squint/scan"
	"squint/tree"
)

const high = 1 << 40 // a nest that is great enough

// laid lays tokens down with one blank between each two, and tells their places; behind them the end's.
func laid(tokens []string) (string, []int) {
	var places []int
	src := ""
	for i, t := range tokens {
		if i > 0 {
			src += " "
		}
		places = append(places, len(src))
		src += t
	}
	return src, append(places, len(src))
}

// loose lays tokens down with any blanks and remarks between, and none where none is needed.
func (m maker) loose(tokens []string) (string, []int) {
	gaps := []string{"", " ", "\n", "\t\r", " # a remark {\n", "#\n", "#;#\n\n  "}
	var places []int
	src := gaps[m.IntN(len(gaps))]
	for i, t := range tokens {
		gap := gaps[m.IntN(len(gaps))]
		if i > 0 && gap == "" && !parts(tokens[i-1], t) {
			gap = " "
		}
		src += gap
		places = append(places, len(src))
		src += t
	}
	src += gaps[m.IntN(len(gaps))]
	return src, append(places, len(src))
}

// parts tells whether two tokens are the same ones, if nothing stands between them.
func parts(a, b string) bool {
	tokens, _ := scan.Scan([]byte(a + b))
	return len(tokens) == 2 && tokens[0].Len == len(a) && tokens[1].Len == len(b)
}

// The signs of a template: a node's own token, another token, that its own is the one that is next.
const (
	own     = -1
	other   = -2
	ownNext = -3
)

// commas are some of the kids with a token between each two.
func commas(from, to int) []int {
	var out []int
	for k := from; k < to; k++ {
		if k > from {
			out = append(out, other)
		}
		out = append(out, k)
	}
	return out
}

func row(from, to int) []int {
	var out []int
	for k := from; k < to; k++ {
		out = append(out, k)
	}
	return out
}

func join(lists ...[]int) []int {
	var out []int
	for _, l := range lists {
		out = append(out, l...)
	}
	return out
}

// template is what stands in a node's text: tokens, and kids by their numbers. It reads chapter 2's column 'At is the place of' a second time.
func template(n api.Node) []int {
	kids := len(n.Kids)
	one, end := []int{own}, []int{other}
	switch n.Kind {
	case api.TInt, api.TBool, api.TName, api.EInt, api.EBool, api.EName:
		return one
	case api.TArray, api.TChan, api.NParam:
		return []int{own, other, 0}
	case api.TTuple, api.EParen, api.ETuple, api.EArray:
		return join(one, commas(0, kids), end)
	case api.TProg:
		out := join(one, end, commas(0, kids-n.Num), end)
		if n.Num == 1 {
			out = append(out, other, kids-1)
		}
		return out
	case api.EProg:
		out := one
		if n.Name != "" {
			out = append(out, other)
		}
		out = join(out, end, commas(0, kids-1-n.Num), end)
		if n.Num == 1 {
			out = append(out, other, kids-2)
		}
		return append(out, kids-1)
	case api.EFill, api.ELen:
		return join(one, end, commas(0, kids), end)
	case api.EMake, api.EUnary:
		return []int{own, 0}
	case api.EBin:
		return []int{0, own, 1}
	case api.ECall, api.EIndex:
		return join([]int{0, own}, commas(1, kids), end)
	case api.EField:
		return []int{0, own, other}
	}
	return templateOfStatement(n)
}

func templateOfStatement(n api.Node) []int {
	kids := len(n.Kids)
	one, end := []int{own}, []int{other}
	switch n.Kind {
	case api.SVal, api.NType:
		return []int{own, other, other, 0, other}
	case api.SVar:
		return join([]int{own, other, other}, commas(0, kids), end)
	case api.SSet, api.SSend:
		return []int{0, own, 1, other}
	case api.SDo:
		return []int{ownNext, 0, other}
	case api.SIf:
		if kids == 3 {
			return []int{own, 0, 1, other, 2}
		}
		return []int{own, 0, 1}
	case api.SWhile:
		return []int{own, 0, 1}
	case api.SReturn, api.SBegin, api.SBlock:
		return join(one, row(0, kids), end)
	case api.SSelect:
		return join(one, end, row(0, kids), end)
	case api.NRecv:
		if n.Name != "" {
			return []int{own, other, other, other, 0, 1}
		}
		return []int{own, other, 0, 1}
	case api.NSend:
		return []int{own, 0, other, 1, 2}
	}
	return row(0, kids) // a program
}

// owns tells of each node which token is its own, and how many tokens there are; -1 of the program, which has none.
func owns(l []api.Node) ([]int, int) {
	out := make([]int, len(l))
	next := 0
	var visit func(k int)
	visit = func(k int) {
		out[k] = -1
		for _, x := range template(l[k]) {
			switch x {
			case own:
				out[k] = next
				next++
			case other:
				next++
			case ownNext:
				out[k] = next
			default:
				visit(l[k].Kids[x])
			}
		}
	}
	visit(len(l) - 1)
	return out, next
}

// bare is a list without its places, and with nil for what is empty.
func bare(l []api.Node) []api.Node {
	out := append([]api.Node(nil), l...)
	for i := range out {
		out[i].At = 0
		out[i].Kids = append([]int(nil), out[i].Kids...)
	}
	return out
}

// wantTree holds what Parse told of tokens that are a source against chapter 2: by P2.5 there is no other tree with that text.
func wantTree(t *testing.T, src string, tokens []string, places []int, l []api.Node, f api.Fault) {
	t.Helper()
	if f != (api.Fault{}) {
		t.Fatalf("%q: %v", src, f)
	}
	if at, code := tree.Check(l); code != api.OK {
		t.Fatalf("%q: Check: %d, %d", src, at, code)
	}
	if text, code := tree.Print(l); code != api.OK || text != strings.Join(tokens, " ") {
		t.Fatalf("%q: Print: %q, %d", src, text, code)
	}
	wantPlaces(t, src, places, l)
}

func wantPlaces(t *testing.T, src string, places []int, l []api.Node) {
	t.Helper()
	which, many := owns(l)
	if many != len(places)-1 {
		t.Fatalf("%q: %d tokens, not %d", src, many, len(places)-1)
	}
	for i, n := range l {
		at := 0
		if which[i] >= 0 {
			at = places[which[i]]
		}
		if n.At != at {
			t.Fatalf("%q: node %d, of the kind %d, is at %d, not %d", src, i, n.Kind, n.At, at)
		}
	}
}

// eachSource makes sources: right ones, and ones with something that may be wrong.
func eachSource(many uint64, do func(m maker, tokens []string)) {
	g := readGrammar()
	for seed := range many {
		m := maker{rand.New(rand.NewPCG(seed, 3)), g}
		tokens := m.tokens("program", 4+m.IntN(18))
		if len(tokens) > 300 {
			continue
		}
		do(m, tokens)
		do(m, m.spoil(tokens))
		do(m, m.spoil(m.spoil(tokens)))
	}
}

// P3.1, P3.2, P3.3: made-up sources are taken just if the grammar takes them, with their tree; else the first token is told that can't stand there.
func TestMadeSources(t *testing.T) {
	g := readGrammar()
	taken, refused, cut := 0, 0, 0
	eachSource(4000, func(m maker, tokens []string) {
		src, places := m.loose(tokens)
		l, f := parse.Parse([]byte(src), high)
		wrong := firstWrong(g, tokens)
		if wrong < 0 {
			taken++
			wantTree(t, src, tokens, places, l, f)
			return
		}
		if wrong == len(tokens) {
			cut++
		}
		refused++
		if want := (api.Fault{At: places[wrong], Code: api.ErrParseWant}); f != want || len(l) != 0 {
			t.Fatalf("%q: %v, not %v", src, f, want)
		}
	})
	if taken < 3000 || refused < 3000 || cut < 30 {
		t.Errorf("too few: %d taken, %d refused, %d of them at the end", taken, refused, cut)
	}
}

// P3.1: behind each beginning of a source each token is tried.
func TestEachTokenBehindEachBeginning(t *testing.T) {
	g := readGrammar()
	all := allTokens()
	for seed := range uint64(150) {
		m := maker{rand.New(rand.NewPCG(seed, 4)), g}
		tokens := m.tokens("program", 8+m.IntN(14))
		if len(tokens) > 80 {
			continue
		}
		c := newChart(g)
		ahead := ""
		for i, token := range tokens {
			src, places := laid(tokens[:i])
			_, f := parse.Parse([]byte(src), high)
			if right := f == (api.Fault{}); right != c.whole() || !right && f != (api.Fault{At: places[i], Code: api.ErrParseWant}) {
				t.Fatalf("%q: %v", src, f)
			}
			wantNext(t, src, ahead, c.open(), all)
			if !c.take(word(ahead, token)) {
				break
			}
			ahead = token
		}
	}
}

// wantNext tries each token behind a source, of which some may stand there.
func wantNext(t *testing.T, src, ahead string, open map[string]bool, all []string) {
	t.Helper()
	for _, x := range all {
		_, f := parse.Parse([]byte(src+" "+x+" "), high)
		here := api.Fault{At: len(src) + 1, Code: api.ErrParseWant}
		end := api.Fault{At: len(src) + len(x) + 2, Code: api.ErrParseWant}
		if open[word(ahead, x)] && f != (api.Fault{}) && f != end || !open[word(ahead, x)] && f != here {
			t.Fatalf("%q and %q: %v", src, x, f)
		}
	}
}

// P3.3: what Check takes is read as it was, whoever made it.
func TestThereAndBack(t *testing.T) {
	tried := 0
	eachSource(1500, func(m maker, tokens []string) {
		src, _ := laid(tokens)
		l, f := parse.Parse([]byte(src), high)
		if f.Code != api.OK {
			return
		}
		for range 8 {
			turn(m, l)
			if _, code := tree.Check(l); code == api.OK {
				tried++
				wantBack(t, l)
			}
		}
	})
	if tried < 3000 {
		t.Errorf("only %d lists were tried", tried)
	}
}

// turn makes a node another one that may be right there, too.
func turn(m maker, l []api.Node) {
	x := &l[m.IntN(len(l))]
	switch x.Kind {
	case api.EBin:
		x.Num = []int{11, 12, 21, 22, 23, 24, 25, 26, 31, 32, 41, 42, 43}[m.IntN(13)]
	case api.EParen, api.EUnary, api.ELen:
		x.Kind, x.Num = api.EUnary, 1+m.IntN(3)
	case api.EIndex, api.ETuple, api.EFill, api.ECall:
		x.Kind = []int{api.EIndex, api.ETuple, api.EFill, api.ECall, api.EArray}[m.IntN(5)]
	case api.TProg:
		x.Num = m.IntN(min(2, len(x.Kids)+1))
	case api.TArray, api.TChan:
		x.Kind = []int{api.TArray, api.TChan}[m.IntN(2)]
	case api.SSet, api.SSend:
		x.Kind = []int{api.SSet, api.SSend}[m.IntN(2)]
	case api.SDo, api.SBegin, api.SReturn:
		x.Kind = []int{api.SDo, api.SBegin, api.SReturn}[m.IntN(3)]
	case api.NRecv:
		x.Name = []string{"", "c"}[m.IntN(2)]
	case api.EInt, api.EField:
		x.Num = m.IntN(1 << 62)
	}
	x.At = m.IntN(99)
}

// wantBack prints a list and reads it again.
func wantBack(t *testing.T, l []api.Node) {
	t.Helper()
	text, code := tree.Print(l)
	if code != api.OK {
		t.Fatalf("Print: %d", code)
	}
	if len(text) > api.MaxSource {
		return
	}
	back, f := parse.Parse([]byte(text), high)
	if f != (api.Fault{}) || !reflect.DeepEqual(bare(back), bare(l)) {
		t.Fatalf("%q: %v, %v, not %v", text, f, back, l)
	}
}

// operations are all that may be made of two expressions.
func operations() []func(a, b []api.Node) []api.Node {
	var out []func(a, b []api.Node) []api.Node
	add := func(n api.Node, both bool) {
		out = append(out, func(a, b []api.Node) []api.Node {
			l := append([]api.Node(nil), a...)
			x := n
			x.Kids = []int{len(l) - 1}
			if !both {
				return append(l, x)
			}
			for _, y := range b {
				kids := append([]int(nil), y.Kids...)
				for i := range kids {
					kids[i] += len(a)
				}
				y.Kids = kids
				l = append(l, y)
			}
			x.Kids = append(x.Kids, len(l)-1)
			return append(l, x)
		})
	}
	for op := range 50 {
		add(api.Node{Kind: api.EBin, Num: op}, true)
		add(api.Node{Kind: api.EUnary, Num: op}, false)
	}
	for _, kind := range []int{api.EIndex, api.ECall, api.ETuple, api.EArray, api.EFill} {
		add(api.Node{Kind: kind}, true)
	}
	for _, kind := range []int{api.EParen, api.EField, api.ECall, api.ELen, api.EArray} {
		add(api.Node{Kind: kind}, false)
	}
	return out
}

// P3.3, on all small expressions in all statements that begin with one, or have one behind `<-`.
func TestSmallExpressions(t *testing.T) {
	leaf := []api.Node{{Kind: api.EName, Name: "x"}}
	var small [][]api.Node
	for _, make := range operations() {
		small = append(small, make(leaf, leaf))
	}
	small = append(small, leaf)
	tried := 0
	for _, make := range operations() {
		for _, a := range small {
			for _, b := range small {
				for _, l := range inStatements(make(a, b)) {
					if _, code := tree.Check(l); code == api.OK {
						tried++
						wantBack(t, l)
					}
				}
			}
		}
	}
	if tried < 10000 {
		t.Errorf("only %d", tried)
	}
}

// inStatements are programs of one statement each that has an expression.
func inStatements(e []api.Node) [][]api.Node {
	end := len(e) - 1
	// The cheapest question first: what is wrong with the expression itself is wrong everywhere.
	if at, _ := tree.Check(e); at <= end {
		return nil
	}
	with := func(nodes ...api.Node) []api.Node {
		l := append([]api.Node(nil), e...)
		l = append(l, nodes...)
		return append(l, api.Node{Kind: api.NProgram, Kids: []int{len(l) - 1}})
	}
	block := api.Node{Kind: api.SBlock}
	return [][]api.Node{
		with(api.Node{Kind: api.SDo, Kids: []int{end}}),
		with(api.Node{Kind: api.EName, Name: "y"}, api.Node{Kind: api.SSend, Kids: []int{end, end + 1}}),
		with(block, api.Node{Kind: api.NRecv, Kids: []int{end, end + 1}}, api.Node{Kind: api.SSelect, Kids: []int{end + 2}}),
		with(api.Node{Kind: api.EInt}, block, api.Node{Kind: api.NSend, Kids: []int{end, end + 1, end + 2}}, api.Node{Kind: api.SSelect, Kids: []int{end + 3}}),
	}
}

// P3.4: what is told hangs on the tokens alone, but for the places.
func TestBlanks(t *testing.T) {
	eachSource(1000, func(m maker, tokens []string) {
		src, places := laid(tokens)
		l, f := parse.Parse([]byte(src), high)
		for range 3 {
			again, moved := m.loose(tokens)
			k, e := parse.Parse([]byte(again), high)
			if e.Code != f.Code || !reflect.DeepEqual(bare(k), bare(l)) {
				t.Fatalf("%q, %q: %v, %v", src, again, f, e)
			}
			if f.Code == api.OK {
				wantPlaces(t, again, moved, k)
			} else if at := index(places, f.At); at < 0 || moved[at] != e.At {
				t.Fatalf("%q, %q: %v, %v", src, again, f, e)
			}
		}
	})
}

func index(l []int, x int) int {
	for i, y := range l {
		if y == x {
			return i
		}
	}
	return -1
}

// P3.5: what is refused at a token is refused there, whatever follows, unless scan refuses it ahead of that.
func TestBeginnings(t *testing.T) {
	g := readGrammar()
	all := allTokens()
	tried := 0
	eachSource(1500, func(m maker, tokens []string) {
		src, places := laid(tokens)
		_, f := parse.Parse([]byte(src), high)
		at := index(places, f.At)
		if f.Code == api.OK || at == len(tokens) {
			return
		}
		tried++
		if at < 0 || firstWrong(g, tokens[:at]) >= 0 && firstWrong(g, tokens[:at]) < at {
			t.Fatalf("%q: what stands ahead of %d is no beginning", src, f.At)
		}
		begin := src[:f.At+len(tokens[at])] + []string{" ", "\n", "\t", "\r"}[m.IntN(4)]
		rest := ""
		for range m.IntN(4) {
			rest += all[m.IntN(len(all))] + " "
		}
		for _, end := range []string{"", rest, src, src[f.At:], "} ; )", "#", rest + "#$"} {
			if _, e := parse.Parse([]byte(begin+end), high); e != f {
				t.Fatalf("%q: %v, not %v", begin+end, e, f)
			}
		}
		want := api.Fault{At: len(begin + rest), Code: api.ErrScanByte}
		if _, e := parse.Parse([]byte(begin+rest+"$ }"), high); e != want {
			t.Fatalf("%q and what is no token: %v, not %v", begin+rest, e, want)
		}
	})
	if tried < 1000 {
		t.Errorf("only %d sources were refused at a token", tried)
	}
}

// P3.6, P3.1: of each nest the first node that is higher, and nothing from the last node's height on.
func TestNests(t *testing.T) {
	eachSource(1500, func(m maker, tokens []string) {
		src, places := m.loose(tokens)
		l, f := parse.Parse([]byte(src), high)
		if f.Code != api.OK {
			for _, nest := range []int{math.MinInt, 0, 1, 2} {
				if _, e := parse.Parse([]byte(src), nest); e != f {
					t.Fatalf("%q, %d: %v, not %v", src, nest, e, f)
				}
			}
			return
		}
		heights := tree.Height(l)
		top := heights[len(heights)-1]
		for _, nest := range append(row(-1, top+2), math.MinInt, math.MaxInt) {
			k, e := parse.Parse([]byte(src), nest)
			if nest >= top {
				wantTree(t, src, tokens, places, k, e)
				continue
			}
			first := 0
			for heights[first] <= nest {
				first++
			}
			if want := (api.Fault{At: l[first].At, Code: api.ErrParseDeep}); e != want || len(k) != 0 {
				t.Fatalf("%q, %d: %v, not %v", src, nest, e, want)
			}
		}
	})
}
