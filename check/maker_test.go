package check_test

import (
	"math/rand/v2"
	"strconv"
	"strings"
	"testing"

	"squint/api"
)

// sort is a type as the maker knows it: how it is written, and what it is.
type sort struct {
	text string
	kind int
	kids []*sort
	res  bool
}

// declared is what is declared at the head of made programs, in any order.
var declared = []string{"type T = chan of T;", "type U = chan of chan of U;", "type R = array of R;", "type I = int;", "type J = I;", "type P = (J, bool);", "type F = prog(F): I;", "type L = (int, array of L);"}

func declaredSorts() []*sort {
	number, truth := &sort{text: "int", kind: api.KInt}, &sort{text: "bool", kind: api.KBool}
	i, j := &sort{text: "I", kind: api.KInt}, &sort{text: "J", kind: api.KInt}
	t, u := &sort{text: "T", kind: api.KChan}, &sort{text: "U", kind: api.KChan}
	r, f, l := &sort{text: "R", kind: api.KArray}, &sort{text: "F", kind: api.KProg, res: true}, &sort{text: "L", kind: api.KTuple}
	p := &sort{text: "P", kind: api.KTuple, kids: []*sort{j, truth}}
	t.kids = []*sort{t}
	u.kids = []*sort{{text: "chan of U", kind: api.KChan, kids: []*sort{u}}}
	r.kids = []*sort{r}
	f.kids = []*sort{f, i}
	l.kids = []*sort{number, {text: "array of L", kind: api.KArray, kids: []*sort{l}}}
	return []*sort{number, truth, number, truth, i, j, t, u, r, p, f, l}
}

// alike tells whether two sorts are the same type.
func alike(a, b *sort, been map[[2]*sort]bool) bool {
	if been[[2]*sort{a, b}] {
		return true
	}
	been[[2]*sort{a, b}] = true
	if a.kind != b.kind || a.res != b.res || len(a.kids) != len(b.kids) {
		return false
	}
	for k := range a.kids {
		if !alike(a.kids[k], b.kids[k], been) {
			return false
		}
	}
	return true
}

// known is a name in scope.
type known struct {
	name  string
	sort  *sort
	isVar bool
	block int
}

// maker makes programs in which all is right; but, each so many times, something else than what is wanted.
type maker struct {
	*rand.Rand
	base   []*sort
	odd    int // 0: never
	names  []known
	block  int
	result *sort // of the prog that is being made
	fresh  int
}

func (m *maker) one(of ...string) string { return of[m.IntN(len(of))] }

func (m *maker) isOdd() bool { return m.odd > 0 && m.IntN(m.odd) == 0 }

func (m *maker) sort(deep int) *sort {
	if deep <= 0 || m.IntN(3) == 0 {
		return m.base[m.IntN(len(m.base))]
	}
	a, b := m.sort(deep-1), m.sort(deep-1)
	switch m.IntN(6) {
	case 0:
		return &sort{"array of " + a.text, api.KArray, []*sort{a}, false}
	case 1:
		return &sort{"chan of " + a.text, api.KChan, []*sort{a}, false}
	case 2:
		return &sort{"(" + a.text + ", " + b.text + ")", api.KTuple, []*sort{a, b}, false}
	case 3:
		return &sort{"prog(" + a.text + ")", api.KProg, []*sort{a}, false}
	case 4:
		return &sort{"prog(" + a.text + "): " + b.text, api.KProg, []*sort{a, b}, true}
	}
	return &sort{"prog()", api.KProg, nil, false}
}

func (m *maker) visible() []known {
	last := map[string]int{}
	for k, one := range m.names {
		last[one.name] = k
	}
	var out []known
	for k, one := range m.names {
		if last[one.name] == k {
			out = append(out, one)
		}
	}
	return out
}

// expr is an expression of a type; now and then of another one, or of none.
func (m *maker) expr(of *sort, deep int) string {
	if m.isOdd() {
		if m.IntN(4) == 0 {
			return m.one("prog() { }()", "(prog() { }())")
		}
		of = m.sort(1)
	}
	if deep > 0 && m.IntN(4) == 0 {
		return m.roundabout(of, deep-1)
	}
	if m.IntN(2) == 0 {
		if e := m.byName(of, deep-1); e != "" {
			return e
		}
	}
	return m.made(of, deep-1)
}

// roundabout is an expression out of which one of a type comes.
func (m *maker) roundabout(of *sort, deep int) string {
	other := m.sort(1)
	index := "[" + m.expr(m.base[0], deep) + "]"
	switch m.IntN(6) {
	case 0:
		return "(" + m.expr(of, deep) + ")"
	case 1:
		return "(" + m.expr(&sort{"(" + other.text + ", " + of.text + ")", api.KTuple, []*sort{other, of}, false}, deep) + ")." + m.oddly("1", "2", "0")
	case 2:
		return "(" + m.expr(&sort{"array of " + of.text, api.KArray, []*sort{of}, false}, deep) + ")" + index
	case 3:
		return "(<-(" + m.expr(&sort{"chan of " + of.text, api.KChan, []*sort{of}, false}, deep) + "))"
	case 4:
		return "[" + m.expr(of, deep) + ", " + m.expr(of, deep) + "]" + index
	}
	return "(" + m.expr(&sort{"prog(): " + of.text, api.KProg, []*sort{of}, true}, deep) + ")()"
}

func (m *maker) oddly(right string, wrong ...string) string {
	if m.isOdd() {
		return m.one(wrong...)
	}
	return right
}

// byName is a name of a type, or a part of a name, or a call of one; "", if there is none.
func (m *maker) byName(of *sort, deep int) string {
	var fit []string
	is := func(one *sort) bool { return alike(one, of, map[[2]*sort]bool{}) }
	for _, one := range m.visible() {
		kids := one.sort.kids
		switch {
		case is(one.sort):
			fit = append(fit, one.name, one.name)
		case one.sort.kind == api.KArray && is(kids[0]):
			fit = append(fit, one.name+"["+m.expr(m.base[0], deep)+"]")
		case one.sort.kind == api.KChan && is(kids[0]):
			fit = append(fit, "(<-"+one.name+")")
		case one.sort.kind == api.KProg && one.sort.res && is(kids[len(kids)-1]) && deep > 0:
			fit = append(fit, one.name+m.args(kids[:len(kids)-1], deep))
		case one.sort.kind == api.KTuple:
			for k, kid := range kids {
				if is(kid) {
					fit = append(fit, one.name+"."+strconv.Itoa(k))
				}
			}
		}
	}
	if len(fit) == 0 {
		return ""
	}
	return m.one(fit...)
}

func (m *maker) args(params []*sort, deep int) string {
	var out []string
	for _, param := range params {
		out = append(out, m.expr(param, deep-1))
	}
	if m.isOdd() {
		out = append(out, "1")
	} else if len(out) > 0 && m.isOdd() {
		out = out[1:]
	}
	return "(" + strings.Join(out, ", ") + ")"
}

// made is an expression of a type that is built up out of its parts.
func (m *maker) made(of *sort, deep int) string {
	if of.kind == api.KInt {
		return m.number(deep)
	}
	if of.kind == api.KBool {
		return m.truth(deep)
	}
	if deep <= 0 {
		return "(<-make chan of " + of.text + ")"
	}
	switch of.kind {
	case api.KArray:
		e := m.expr(of.kids[0], deep)
		return m.one("["+e+"]", "["+e+", "+m.expr(of.kids[0], deep-1)+"]", "fill("+m.expr(m.base[0], deep)+", "+e+")")
	case api.KChan:
		return "make chan of " + of.kids[0].text
	case api.KTuple:
		return "(" + m.expr(of.kids[0], deep) + ", " + m.expr(of.kids[1], deep) + ")"
	}
	if of.res {
		last := len(of.kids) - 1
		return m.prog(of.kids[:last], of.kids[last], deep)
	}
	return m.prog(of.kids, nil, deep)
}

func (m *maker) number(deep int) string {
	if deep <= 0 {
		return strconv.Itoa(m.IntN(9))
	}
	switch m.IntN(6) {
	case 0:
		return "-(" + m.expr(m.base[0], deep-1) + ")"
	case 1, 2, 3:
		return "len(" + m.expr(&sort{kind: api.KArray, text: "array of bool", kids: m.base[1:2]}, deep-1) + ")"
	case 4:
		return "(" + m.expr(m.base[0], deep-1) + " " + m.one("+", "-", "*", "/", "%") + " (" + m.expr(m.base[0], deep-1) + "))"
	}
	return m.number(0)
}

func (m *maker) truth(deep int) string {
	if deep <= 0 {
		return m.one("true", "false")
	}
	deep--
	switch m.IntN(6) {
	case 0:
		return "!(" + m.expr(m.base[1], deep) + ")"
	case 1:
		return "((" + m.expr(m.base[0], deep) + ") " + m.one("<", "<=", ">", ">=") + " (" + m.expr(m.base[0], deep) + "))"
	case 2:
		return "((" + m.expr(m.base[1], deep) + ") " + m.one("||", "&&") + " (" + m.expr(m.base[1], deep) + "))"
	case 3:
		one := m.sort(2)
		if !m.isOdd() && one.kind != api.KInt && one.kind != api.KBool {
			one = &sort{"chan of " + one.text, api.KChan, []*sort{one}, false}
		}
		return "((" + m.expr(one, deep) + ") " + m.one("==", "!=") + " (" + m.expr(one, deep) + "))"
	}
	return m.truth(0)
}

func (m *maker) prog(params []*sort, result *sort, deep int) string {
	names, block, around := m.names, m.block, m.result
	m.names = append([]known(nil), names...)
	for k, one := range names {
		if one.isVar {
			// It may not be used in here, but hides what it hid.
			m.names[k].sort, m.names[k].isVar = &sort{}, false
		}
	}
	own := ""
	whole := &sort{kind: api.KProg, kids: params, res: result != nil}
	var texts []string
	for _, param := range params {
		texts = append(texts, param.text)
	}
	whole.text = "prog(" + strings.Join(texts, ", ") + ")"
	res := ""
	if result != nil {
		whole.kids = append(params[:len(params):len(params)], result)
		res = ": " + result.text
		whole.text += res
	}
	m.block = block + 1
	if m.IntN(2) == 0 {
		own = " " + m.declare(whole, false)
	}
	m.block++
	texts = nil
	for _, param := range params {
		texts = append(texts, m.declare(param, false)+": "+param.text)
	}
	m.result = result
	body := m.statements(m.IntN(2), deep-1)
	if result != nil && !m.isOdd() {
		body += " " + m.end(deep-1)
	}
	m.names, m.block, m.result = names, block, around
	return "prog" + own + "(" + strings.Join(texts, ", ") + ")" + res + " { " + body + " }"
}

// end is a statement that ends.
func (m *maker) end(deep int) string {
	block := func() string {
		return m.inside(func() string { return "{ " + m.statements(m.IntN(2), deep-1) + " " + m.end(deep-1) + " }" })
	}
	if deep > 0 {
		switch m.IntN(6) {
		case 0:
			return block()
		case 1:
			return "if " + m.expr(m.base[1], deep-1) + " " + block() + " else " + block()
		case 2:
			return "select { " + m.one("", m.arm(deep-1, block)+" "+m.arm(deep-1, block)) + " }"
		}
	}
	return m.back(deep)
}

func (m *maker) back(deep int) string {
	gives := m.result != nil
	if m.isOdd() {
		gives = !gives
	}
	switch {
	case !gives:
		return "return;"
	case m.result == nil:
		return "return " + m.expr(m.sort(1), deep) + ";"
	}
	return "return " + m.expr(m.result, deep) + ";"
}

// declare makes a name known from here on: one that the block has not.
func (m *maker) declare(of *sort, isVar bool) string {
	name := m.one("a", "b", "c", "x", "y", "input", "output")
	for _, one := range m.names {
		if one.name == name && one.block == m.block {
			name = "n" + strconv.Itoa(m.fresh)
			m.fresh++
		}
	}
	m.names = append(m.names, known{name, of, isVar, m.block})
	return name
}

// inside makes what stands in a block.
func (m *maker) inside(make func() string) string {
	kept := len(m.names)
	m.block++
	out := make()
	m.block--
	m.names = m.names[:kept]
	return out
}

func (m *maker) plain(deep int) string {
	return m.inside(func() string { return "{ " + m.statements(m.IntN(3), deep-1) + " }" })
}

func (m *maker) arm(deep int, block func() string) string {
	of := m.sort(1)
	on := &sort{"chan of " + of.text, api.KChan, []*sort{of}, false}
	switch m.IntN(3) {
	case 0:
		return "case <-(" + m.expr(on, deep) + ") " + block()
	case 1:
		c := m.expr(on, deep)
		// The arm's name and its block's count as one block.
		return m.inside(func() string {
			name := m.declare(of, false)
			m.block--
			body := block()
			m.block++
			return "case " + name + " = <-(" + c + ") " + body
		})
	}
	return "case (" + m.expr(on, deep) + ") <-= " + m.expr(of, deep) + " " + block()
}

func (m *maker) set(deep int) string {
	var vars []known
	for _, one := range m.visible() {
		if one.isVar {
			vars = append(vars, one)
		}
	}
	if len(vars) == 0 {
		return m.back(deep)
	}
	one := vars[m.IntN(len(vars))]
	place, of := one.name, one.sort
	for m.IntN(2) == 0 {
		switch of.kind {
		case api.KArray:
			place, of = place+"["+m.expr(m.base[0], deep)+"]", of.kids[0]
		case api.KTuple:
			place, of = place+".1", of.kids[1]
		}
	}
	return m.oddly(place, "("+place+")", "1", "[1][0]") + " = " + m.expr(of, deep) + ";"
}

func (m *maker) statement(deep int) string {
	of := m.sort(2)
	switch m.IntN(16) {
	case 0, 1, 2:
		e := m.expr(of, deep)
		if m.odd > 0 {
			// What is declared has the type that is known of it, even if another expression stands there.
			return "var " + m.declare(of, true) + ": " + of.text + " = " + e + ";"
		}
		return "val " + m.declare(of, false) + " = " + e + ";"
	case 3:
		e := "(<-make chan of " + of.text + ")"
		return m.oddly("val "+m.declare(of, false)+" = "+e, "val z"+strconv.Itoa(m.IntN(1<<30))+" = prog() { }()") + ";"
	case 4:
		return "var " + m.declare(of, true) + ": " + of.text + ";"
	case 5, 6, 7:
		return m.set(deep)
	case 8:
		on := &sort{"chan of " + of.text, api.KChan, []*sort{of}, false}
		return "(" + m.expr(on, deep) + ") <-= " + m.expr(of, deep) + ";"
	case 9:
		return m.oddly("<-make chan of "+of.text, m.expr(of, deep)) + ";"
	case 10:
		return m.one("", "begin ") + m.one("("+m.prog(nil, nil, deep)+")()", "("+m.prog([]*sort{of}, of, deep)+m.args([]*sort{of}, deep)+")", "prog() { }"+m.oddly("()", "", "()()")) + ";"
	case 11:
		return "if " + m.expr(m.base[1], deep) + " " + m.plain(deep) + m.one("", " else "+m.plain(deep), " else if "+m.expr(m.base[1], deep)+" "+m.plain(deep))
	case 12:
		return "while " + m.expr(m.base[1], deep) + " " + m.plain(deep)
	case 13:
		return "select { " + m.arm(deep, func() string { return m.plain(deep) }) + " " + m.one("", m.arm(deep, func() string { return m.plain(deep) })) + " }"
	case 14:
		return m.plain(deep)
	}
	return m.back(deep)
}

func (m *maker) statements(many, deep int) string {
	var out []string
	for range many {
		if deep <= 0 {
			break
		}
		out = append(out, m.statement(deep-1))
	}
	return strings.Join(out, " ")
}

func (m *maker) program() string {
	m.base = declaredSorts()
	m.block, m.result, m.fresh = 1, nil, 0
	channel := &sort{"chan of int", api.KChan, m.base[:1], false}
	m.names = []known{{"input", channel, false, 0}, {"output", channel, false, 0}}
	var out []string
	for _, k := range m.Perm(len(declared)) {
		out = append(out, declared[k])
	}
	return strings.Join(out, " ") + " " + m.statements(1+m.IntN(6), 2+m.IntN(4))
}

// eachProgram makes programs: a third of them right ones.
func eachProgram(t *testing.T, seed uint64, times int, do func(m *maker, l []api.Node)) {
	t.Helper()
	r := rand.New(rand.NewPCG(6, seed))
	for k := range times {
		m := &maker{Rand: r}
		if k%3 > 0 {
			m.odd = 3 + r.IntN(30)
		}
		l := parsed(t, m.program())
		if len(l) <= 250 {
			do(m, l)
		}
	}
}
