package tree_test

import (
	"math/rand/v2"
	"reflect"
	"regexp"
	"strconv"
	"strings"
	"testing"

	"squint/api"
	"squint/scan"
	"squint/tree"
)

var nameForm = regexp.MustCompile(`^[A-Za-z_][A-Za-z0-9_]{0,31}$`)

// forms are the kids that each kind wants, by their letters. (EProg and NProgram hang on Num.)
var forms = map[int]string{
	api.TInt: "", api.TBool: "", api.TName: "", api.TArray: "[TC]", api.TTuple: "[TC]{2,}", api.TChan: "[TC]", api.TProg: "[TC]*",
	api.EInt: "", api.EBool: "", api.EName: "", api.EParen: "E", api.ETuple: "E{2,}", api.EArray: "E+", api.EFill: "EE", api.ELen: "E", api.EMake: "C",
	api.EUnary: "E", api.EBin: "EE", api.ECall: "E+", api.EIndex: "EE", api.EField: "E",
	api.SVal: "E", api.SVar: "[TC]E?", api.SSet: "EE", api.SSend: "EE", api.SDo: "E", api.SIf: "EB[BI]?", api.SWhile: "EB",
	api.SReturn: "E?", api.SBegin: "E", api.SSelect: "[RN]*", api.SBlock: "[SBI]*",
	api.NParam: "[TC]", api.NRecv: "EB", api.NSend: "EEB", api.NType: "[TC]", api.NProgram: "", api.EProg: "",
}

// plain reads P2.2 a second time, to be held against Check.
func plain(l []api.Node) (int, api.Errno) {
	for i, x := range l {
		form, known := forms[x.Kind]
		switch {
		case !known || x.At < 0:
			return i, api.ErrTreeNode
		case !plainNum(x):
			return i, api.ErrTreeNum
		case !plainName(x):
			return i, api.ErrTreeName
		case !plainKids(l, i, form):
			return i, api.ErrTreeKids
		case !plainLevels(l, x):
			return i, api.ErrTreeLevel
		}
	}
	if len(l) == 0 || l[len(l)-1].Kind != api.NProgram || len(below(l, len(l)-1)) != len(l) {
		return len(l), api.ErrTreeRoot
	}
	return 0, api.OK
}

func plainNum(x api.Node) bool {
	low, high := 0, 0
	switch x.Kind {
	case api.EInt, api.EField:
		return x.Num >= 0
	case api.EBool, api.EProg:
		high = 1
	case api.TProg:
		high = min(1, len(x.Kids))
	case api.EUnary:
		low, high = 1, 3
	case api.EBin:
		return levelOf(x) > 0
	case api.NProgram:
		high = len(x.Kids)
	}
	return x.Num >= low && x.Num <= high
}

func plainName(x api.Node) bool {
	right := nameForm.MatchString(x.Name) && scan.Kind(x.Name) == 0
	switch x.Kind {
	case api.TName, api.EName, api.SVal, api.SVar, api.NParam, api.NType:
		return right
	case api.EProg, api.NRecv:
		return right || x.Name == ""
	}
	return x.Name == ""
}

// below are the nodes below one, and it, in their order.
func below(l []api.Node, i int) []int {
	var out []int
	for _, k := range l[i].Kids {
		if k < 0 || k >= i {
			return nil
		}
		out = append(out, below(l, k)...)
	}
	return append(out, i)
}

func plainKids(l []api.Node, i int, form string) bool {
	order := below(l, i)
	if order == nil {
		return false
	}
	for k, at := range order {
		if at != i-len(order)+1+k {
			return false
		}
	}
	if l[i].Kind == api.EProg {
		form = "P*" + strings.Repeat("[TC]", l[i].Num) + "B"
	}
	if l[i].Kind == api.NProgram {
		form = "Y{" + strconv.Itoa(l[i].Num) + "}[SBI]*"
	}
	letters := ""
	for _, k := range l[i].Kids {
		letters += letter(l[k].Kind)
	}
	return matched(form, letters)
}

// compiled keeps the patterns that were asked for, as there are but few.
var compiled = map[string]*regexp.Regexp{}

func matched(form, letters string) bool {
	if compiled[form] == nil {
		compiled[form] = regexp.MustCompile("^(?:" + form + ")$")
	}
	return compiled[form].MatchString(letters)
}

func plainLevels(l []api.Node, x api.Node) bool {
	left := map[int]int{1: 1, 2: 2, 3: 4, 4: 4, 5: 5}
	right := map[int]int{1: 2, 2: 3, 3: 4, 4: 5, 5: 6}
	at := func(k int) int { return levelOf(l[x.Kids[k]]) }
	switch x.Kind {
	case api.EBin:
		return at(0) >= left[levelOf(x)] && at(1) >= right[levelOf(x)]
	case api.EUnary, api.NRecv:
		return at(0) >= 6
	case api.ECall, api.EIndex, api.EField:
		return at(0) >= 7
	case api.NSend:
		return !opensWithRecv(l, l[x.Kids[0]])
	}
	return true
}

func opensWithRecv(l []api.Node, x api.Node) bool {
	if strings.Contains(" 22 23 24 25 ", " "+strconv.Itoa(x.Kind)+" ") {
		return opensWithRecv(l, l[x.Kids[0]])
	}
	return x.Kind == api.EUnary && x.Num == api.OpRecv
}

// gardener makes trees; it is careful to put what binds too loosely into parentheses.
type gardener struct{ *rand.Rand }

func (g gardener) some(most, deep int, one func(int) *plant) []*plant {
	var out []*plant
	for range g.IntN(most + 1) {
		out = append(out, one(deep-1))
	}
	return out
}

func (g gardener) name() string {
	return []string{"a", "b", "_", "x1", "input", strings.Repeat("q", 32)}[g.IntN(6)]
}

func (g gardener) typ(deep int) *plant {
	if deep <= 0 {
		return []*plant{grow(api.TInt, "", 0), grow(api.TBool, "", 0), grow(api.TName, g.name(), 0)}[g.IntN(3)]
	}
	switch g.IntN(5) {
	case 0:
		return grow(api.TArray, "", 0, g.typ(deep-1))
	case 1:
		return grow(api.TChan, "", 0, g.typ(deep-1))
	case 2:
		return grow(api.TTuple, "", 0, append(g.some(2, deep, g.typ), g.typ(deep-1), g.typ(deep-1))...)
	case 3:
		kids := g.some(2, deep, g.typ)
		return grow(api.TProg, "", g.IntN(min(2, len(kids)+1)), kids...)
	}
	return g.typ(0)
}

// bound is an expression of a level at least.
func (g gardener) bound(level, deep int) *plant {
	p := g.expr(deep)
	if levelOf(p.node) < level {
		return paren(p)
	}
	return p
}

func (g gardener) expr(deep int) *plant {
	if deep <= 0 {
		return []*plant{number(g.IntN(3)), nameOf(g.name()), grow(api.EBool, "", g.IntN(2))}[g.IntN(3)]
	}
	deep--
	switch g.IntN(14) {
	case 0:
		return paren(g.expr(deep))
	case 1:
		return grow(api.ETuple, "", 0, append(g.some(2, deep, g.expr), g.expr(deep), g.expr(deep))...)
	case 2:
		return grow(api.EArray, "", 0, append(g.some(2, deep, g.expr), g.expr(deep))...)
	case 3:
		return grow(api.EFill, "", 0, g.expr(deep), g.expr(deep))
	case 4:
		return grow(api.ELen, "", 0, g.expr(deep))
	case 5:
		return grow(api.EMake, "", 0, grow(api.TChan, "", 0, g.typ(deep)))
	case 6:
		return g.prog(deep)
	case 7, 8:
		return unary(1+g.IntN(3), g.bound(6, deep))
	case 9, 10:
		return g.bin(deep)
	case 11:
		return call(g.bound(7, deep), g.some(2, deep, g.expr)...)
	case 12:
		return grow(api.EIndex, "", 0, g.bound(7, deep), g.expr(deep))
	}
	return grow(api.EField, "", g.IntN(3), g.bound(7, deep))
}

func (g gardener) prog(deep int) *plant {
	var kids []*plant
	for range g.IntN(3) {
		kids = append(kids, grow(api.NParam, g.name(), 0, g.typ(deep)))
	}
	num := g.IntN(2)
	if num == 1 {
		kids = append(kids, g.typ(deep))
	}
	return grow(api.EProg, []string{"", "f"}[g.IntN(2)], num, append(kids, g.block(deep))...)
}

func (g gardener) bin(deep int) *plant {
	op := []int{11, 12, 21, 22, 23, 24, 25, 26, 31, 32, 41, 42, 43}[g.IntN(13)]
	level := levelOf(api.Node{Kind: api.EBin, Num: op})
	left := level
	if level == 3 {
		left = 4
	}
	return bin(op, g.bound(left, deep), g.bound(level+1, deep))
}

func (g gardener) block(deep int) *plant { return block(g.some(2, deep, g.statement)...) }

func (g gardener) statement(deep int) *plant {
	if deep <= 0 {
		return []*plant{block(), grow(api.SReturn, "", 0), grow(api.SSelect, "", 0), do(g.expr(0))}[g.IntN(4)]
	}
	deep--
	switch g.IntN(11) {
	case 0:
		return grow(api.SVal, g.name(), 0, g.expr(deep))
	case 1:
		return grow(api.SVar, g.name(), 0, append([]*plant{g.typ(deep)}, g.some(1, deep, g.expr)...)...)
	case 2:
		return grow(api.SSet, "", 0, g.expr(deep), g.expr(deep))
	case 3:
		return grow(api.SSend, "", 0, g.expr(deep), g.expr(deep))
	case 4:
		return do(g.expr(deep))
	case 5:
		return g.branch(deep)
	case 6:
		return grow(api.SWhile, "", 0, g.expr(deep), g.block(deep))
	case 7:
		return grow(api.SReturn, "", 0, g.some(1, deep, g.expr)...)
	case 8:
		return grow(api.SBegin, "", 0, g.expr(deep))
	case 9:
		return grow(api.SSelect, "", 0, g.some(3, deep, g.arm)...)
	}
	return g.block(deep)
}

func (g gardener) branch(deep int) *plant {
	p := grow(api.SIf, "", 0, g.expr(deep), g.block(deep))
	switch g.IntN(3) {
	case 0:
		p.kids = append(p.kids, g.block(deep))
	case 1:
		p.kids = append(p.kids, g.branch(deep-1))
	}
	return p
}

func (g gardener) arm(deep int) *plant {
	if g.IntN(2) == 0 {
		return grow(api.NRecv, []string{"", "x"}[g.IntN(2)], 0, g.bound(6, deep), g.block(deep))
	}
	channel := g.expr(deep)
	if l := channel.list(); opensWithRecv(l, l[len(l)-1]) {
		channel = paren(channel)
	}
	return grow(api.NSend, "", 0, channel, g.expr(deep), g.block(deep))
}

func (g gardener) program(deep int) *plant {
	var kids []*plant
	for range g.IntN(3) {
		kids = append(kids, grow(api.NType, g.name(), 0, g.typ(deep)))
	}
	num := len(kids)
	return grow(api.NProgram, "", num, append(kids, g.some(3, deep+1, g.statement)...)...)
}

// spoil makes something in a list another thing, which may be wrong or not.
func (g gardener) spoil(l []api.Node) []api.Node {
	if len(l) == 0 {
		return l
	}
	i := g.IntN(len(l))
	x := &l[i]
	switch g.IntN(13) {
	case 0:
		x.Kind = g.IntN(49) - 1
	case 1:
		x.Num = g.IntN(46) - 2
	case 2:
		x.Name = []string{"", "a", "val", "0", "a b", strings.Repeat("q", 33)}[g.IntN(6)]
	case 3:
		x.At = g.IntN(4) - 1
	case 4:
		if len(x.Kids) > 0 {
			x.Kids[g.IntN(len(x.Kids))] = i - g.IntN(6) + 1
		}
	case 5:
		x.Kids = append(x.Kids, i-1)
	case 6:
		if len(x.Kids) > 0 {
			x.Kids = x.Kids[:len(x.Kids)-1]
		}
	case 7:
		if len(x.Kids) > 0 {
			x.Kids = x.Kids[1:]
		}
	case 8:
		return l[:i]
	case 9:
		k := g.IntN(len(l))
		l[i], l[k] = l[k], l[i]
	default:
		g.loosen(l)
	}
	return l
}

// loosen makes operators others, and parentheses too, so that levels may not fit.
func (g gardener) loosen(l []api.Node) {
	for i := range l {
		if l[i].Kind == api.EBin && g.IntN(2) == 0 {
			l[i].Num = []int{11, 12, 21, 26, 31, 32, 41, 43}[g.IntN(8)]
		}
		if l[i].Kind == api.EParen && g.IntN(2) == 0 {
			l[i].Kind, l[i].Num = api.EUnary, 1+g.IntN(3)
		}
	}
}

// same tells whether two lists are the same but for At.
func same(a, b []api.Node) bool {
	a, b = copyOf(a), copyOf(b)
	for i := range a {
		a[i].At = 0
	}
	for i := range b {
		b[i].At = 0
	}
	return reflect.DeepEqual(a, b)
}

// taken holds a list that Check takes against P2.5 to P2.7, and keeps its text.
func taken(t *testing.T, texts map[string][]api.Node, l []api.Node) {
	t.Helper()
	text, code := tree.Print(l)
	if code != api.OK {
		t.Fatalf("Print: %d of %v", code, l)
	}
	if other, known := texts[text]; known && !same(other, l) {
		t.Fatalf("%q is the text of two trees: %v, %v", text, other, l)
	}
	texts[text] = copyOf(l)
	tokens, fault := scan.Scan([]byte(text))
	if fault.Code != api.OK {
		t.Fatalf("%q: %v", text, fault)
	}
	words := strings.Fields(text)
	if strings.Join(words, " ") != text || len(words) != len(tokens) {
		t.Fatalf("%q: not one blank between each two of %d tokens", text, len(tokens))
	}
	for i, tok := range tokens {
		if got := text[tok.At : tok.At+tok.Len]; got != words[i] || tok.Kind >= api.TokWord && scan.Text(tok.Kind) != got {
			t.Fatalf("%q: token %d is %q", text, i, got)
		}
	}
	parents := make([]int, len(l))
	for _, x := range l {
		for _, k := range x.Kids {
			parents[k]++
		}
	}
	for i, k := range parents {
		if i < len(l)-1 && k != 1 || i == len(l)-1 && k != 0 {
			t.Fatalf("node %d of %v is the kid of %d", i, l, k)
		}
	}
}

func TestMadeTrees(t *testing.T) {
	texts := map[string][]api.Node{}
	for seed := range uint64(6000) {
		g := gardener{rand.New(rand.NewPCG(seed, 2))}
		l := g.program(int(seed % 4)).list()
		if at, code := tree.Check(l); at != 0 || code != api.OK {
			t.Fatalf("seed %d: %d, %d of %v", seed, at, code, l)
		}
		taken(t, texts, l)
	}
}

func TestSpoiltTrees(t *testing.T) {
	texts := map[string][]api.Node{}
	told := map[api.Errno]int{}
	for seed := range uint64(60000) {
		g := gardener{rand.New(rand.NewPCG(seed, 3))}
		l := copyOf(g.program(int(seed % 4)).list())
		for range 1 + g.IntN(2) {
			l = g.spoil(l)
		}
		wantAt, want := plain(l)
		at, code := tree.Check(l)
		if at != wantAt || code != want {
			t.Fatalf("seed %d: %d, %d, not %d, %d: %v", seed, at, code, wantAt, want, l)
		}
		told[code]++
		if code == api.OK {
			taken(t, texts, l)
		} else if s, e := tree.Print(l); s != "" || e != code {
			t.Fatalf("seed %d: Print: %q, %d", seed, s, e)
		}
		heights(t, l)
	}
	for _, code := range []api.Errno{api.OK, 20, 21, 22, 23, 24, 25} {
		if told[code] < 50 {
			t.Errorf("error %d was told %d times", code, told[code])
		}
	}
}

// heights holds Height against P2.3, node by node.
func heights(t *testing.T, l []api.Node) {
	t.Helper()
	got := tree.Height(l)
	var high func(i int) int
	high = func(i int) int {
		top := 0
		for _, k := range l[i].Kids {
			if k >= 0 && k < i {
				top = max(top, high(k))
			}
		}
		return top + 1
	}
	if len(got) != len(l) {
		t.Fatalf("%d heights of %d nodes", len(got), len(l))
	}
	for i := range l {
		if got[i] != high(i) {
			t.Fatalf("height %d of node %d of %v", got[i], i, l)
		}
	}
}

// expressions are all expressions of a number of nodes, made of a few kinds, whether their levels fit or not.
func expressions(nodes int, known map[int][]*plant) []*plant {
	if out, ok := known[nodes]; ok {
		return out
	}
	var out []*plant
	if nodes == 1 {
		out = []*plant{nameOf("a"), number(1)}
	}
	if nodes > 1 {
		for _, p := range expressions(nodes-1, known) {
			out = append(out, paren(p), unary(api.OpNeg, p), unary(api.OpRecv, p), call(p), grow(api.EField, "", 1, p), grow(api.EArray, "", 0, p))
		}
	}
	for left := 1; left < nodes-1; left++ {
		for _, a := range expressions(left, known) {
			for _, b := range expressions(nodes-1-left, known) {
				for _, op := range []int{api.OpOr, api.OpAnd, api.OpLt, api.OpSub, api.OpMul} {
					out = append(out, bin(op, a, b))
				}
				out = append(out, call(a, b), grow(api.EIndex, "", 0, a, b), grow(api.ETuple, "", 0, a, b))
			}
		}
	}
	known[nodes] = out
	return out
}

// Of all small expressions those that Check takes have each a text of their own; and Check takes just those of P2.2.
func TestSmallExpressions(t *testing.T) {
	texts := map[string][]api.Node{}
	known := map[int][]*plant{}
	for nodes := 1; nodes <= 5; nodes++ {
		for _, p := range expressions(nodes, known) {
			for _, root := range []*plant{program(do(p)), program(grow(api.SSelect, "", 0, grow(api.NSend, "", 0, p, number(1), block()))),
				program(grow(api.SSelect, "", 0, grow(api.NRecv, "", 0, p, block())))} {
				l := root.list()
				wantAt, want := plain(l)
				if at, code := tree.Check(l); at != wantAt || code != want {
					t.Fatalf("%d, %d, not %d, %d: %v", at, code, wantAt, want, l)
				}
				if want == api.OK {
					taken(t, texts, l)
				}
			}
		}
	}
	if len(texts) < 1000 {
		t.Error("texts:", len(texts))
	}
}
