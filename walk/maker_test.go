package walk_test

import (
	"math/rand/v2"
	"strconv"
	"strings"

	"squint/api"
)

// sort is a type as the maker knows it: how it is written, and what it is.
type sort struct {
	text string
	kind int
	kids []*sort
	res  bool
}

// declared is what stands at the head of made programs, in any order.
var declared = []string{"type T = chan of T;", "type R = array of R;", "type I = int;", "type P = (I, bool);", "type F = prog(F): I;", "type L = (int, array of L);", "type G = prog(chan of G, int);"}

func declaredSorts() []*sort {
	number, truth, i := &sort{text: "int", kind: api.KInt}, &sort{text: "bool", kind: api.KBool}, &sort{text: "I", kind: api.KInt}
	t, r := &sort{text: "T", kind: api.KChan}, &sort{text: "R", kind: api.KArray}
	f, l, g := &sort{text: "F", kind: api.KProg, res: true}, &sort{text: "L", kind: api.KTuple}, &sort{text: "G", kind: api.KProg}
	p := &sort{text: "P", kind: api.KTuple, kids: []*sort{i, truth}}
	t.kids, r.kids, f.kids = []*sort{t}, []*sort{r}, []*sort{f, i}
	l.kids = []*sort{number, {text: "array of L", kind: api.KArray, kids: []*sort{l}}}
	g.kids = []*sort{{text: "chan of G", kind: api.KChan, kids: []*sort{g}}, number}
	return []*sort{number, truth, number, i, number, truth, t, r, p, f, l, g}
}

// alike tells whether two sorts are the same type.
func alike(a, b *sort, been map[[2]*sort]bool) bool {
	if been[[2]*sort{a, b}] {
		return true
	}
	been[[2]*sort{a, b}] = true
	if a.kind != b.kind || a.res != b.res || len(a.kids) != len(b.kids) {
		return false
	}
	for k := range a.kids {
		if !alike(a.kids[k], b.kids[k], been) {
			return false
		}
	}
	return true
}

// known is a name in scope.
type known struct {
	name  string
	sort  *sort
	isVar bool
	block int
}

// maker makes programs of which nothing is wrong.
type maker struct {
	*rand.Rand
	base   []*sort
	names  []known
	block  int
	result *sort // of the prog that is being made
	fresh  int
}

func (m *maker) one(of ...string) string { return of[m.IntN(len(of))] }

func chanOf(of *sort) *sort { return &sort{"chan of " + of.text, api.KChan, []*sort{of}, false} }

func progSort(params []*sort, result *sort) *sort {
	out := &sort{kind: api.KProg, kids: params, res: result != nil}
	var texts []string
	for _, param := range params {
		texts = append(texts, param.text)
	}
	out.text = "prog(" + strings.Join(texts, ", ") + ")"
	if result != nil {
		out.kids = append(params[:len(params):len(params)], result)
		out.text += ": " + result.text
	}
	return out
}

func (m *maker) sort(deep int) *sort {
	if deep <= 0 || m.IntN(3) == 0 {
		return m.base[m.IntN(len(m.base))]
	}
	a, b := m.sort(deep-1), m.sort(deep-1)
	switch m.IntN(7) {
	case 0, 1:
		return &sort{"array of " + a.text, api.KArray, []*sort{a}, false}
	case 2, 3:
		return chanOf(a)
	case 4:
		return &sort{"(" + a.text + ", " + b.text + ")", api.KTuple, []*sort{a, b}, false}
	case 5:
		return progSort([]*sort{a, b}[:m.IntN(3)], b)
	}
	return progSort([]*sort{a, b}[:m.IntN(3)], nil)
}

func (m *maker) visible() []known {
	last := map[string]int{}
	for k, one := range m.names {
		last[one.name] = k
	}
	var out []known
	for k, one := range m.names {
		if last[one.name] == k {
			out = append(out, one)
		}
	}
	return out
}

// expr is an expression of a type.
func (m *maker) expr(of *sort, deep int) string {
	if deep > 0 && m.IntN(5) == 0 {
		return m.roundabout(of, deep-1)
	}
	if m.IntN(4) > 0 {
		if e := m.byName(of, deep-1); e != "" {
			return e
		}
	}
	return m.made(of, deep-1)
}

// where is an index: mostly one that may be there.
func (m *maker) where(deep int) string {
	if m.IntN(3) == 0 {
		return m.expr(m.base[0], deep)
	}
	return m.one("0", "0", "0", "1")
}

// roundabout is an expression out of which one of a type comes.
func (m *maker) roundabout(of *sort, deep int) string {
	other := m.sort(1)
	switch m.IntN(7) {
	case 0:
		return "(" + m.expr(of, deep) + ")"
	case 1:
		return "(" + m.expr(&sort{"(" + other.text + ", " + of.text + ")", api.KTuple, []*sort{other, of}, false}, deep) + ").1"
	case 2:
		return "(" + m.expr(&sort{"array of " + of.text, api.KArray, []*sort{of}, false}, deep) + ")[" + m.where(deep) + "]"
	case 3:
		return "(<-(" + m.expr(chanOf(of), deep) + "))"
	case 4:
		return "[" + m.expr(of, deep) + ", " + m.expr(of, deep) + "][" + m.where(deep) + "]"
	}
	params := []*sort{other, m.sort(1)}[:m.IntN(3)]
	return "(" + m.expr(progSort(params, of), deep) + ")" + m.args(params, deep)
}

// byName is a name of a type, or a part of a name, or a call of one; "", if there is none.
func (m *maker) byName(of *sort, deep int) string {
	var fit []string
	is := func(one *sort) bool { return alike(one, of, map[[2]*sort]bool{}) }
	for _, one := range m.visible() {
		kids := one.sort.kids
		switch {
		case is(one.sort):
			fit = append(fit, one.name, one.name)
		case one.sort.kind == api.KArray && is(kids[0]):
			fit = append(fit, one.name+"["+m.where(deep)+"]")
		case one.sort.kind == api.KChan && is(kids[0]):
			fit = append(fit, "(<-"+one.name+")")
		case one.sort.kind == api.KProg && one.sort.res && is(kids[len(kids)-1]) && deep > 0:
			fit = append(fit, one.name+m.args(kids[:len(kids)-1], deep))
		case one.sort.kind == api.KTuple:
			for k, kid := range kids {
				if is(kid) {
					fit = append(fit, one.name+"."+strconv.Itoa(k))
				}
			}
		}
	}
	if len(fit) == 0 {
		return ""
	}
	return m.one(fit...)
}

func (m *maker) args(params []*sort, deep int) string {
	var out []string
	for _, param := range params {
		out = append(out, m.expr(param, deep-1))
	}
	return "(" + strings.Join(out, ", ") + ")"
}

// made is an expression of a type that is built up out of its parts.
func (m *maker) made(of *sort, deep int) string {
	if of.kind == api.KInt {
		return m.number(deep)
	}
	if of.kind == api.KBool {
		return m.truth(deep)
	}
	if deep <= 0 {
		return m.plainest(of)
	}
	switch of.kind {
	case api.KArray:
		e := m.expr(of.kids[0], deep)
		return m.one("["+e+"]", "["+e+", "+m.expr(of.kids[0], deep-1)+"]", "fill("+m.where(deep)+", "+e+")")
	case api.KChan:
		return "make chan of " + of.kids[0].text
	case api.KTuple:
		return "(" + m.expr(of.kids[0], deep) + ", " + m.expr(of.kids[1], deep) + ")"
	}
	if of.res {
		last := len(of.kids) - 1
		return m.prog(of.kids[:last], of.kids[last], deep)
	}
	return m.prog(of.kids, nil, deep)
}

// plainest is a short expression of a type.
func (m *maker) plainest(of *sort) string {
	received := "(<-make chan of " + of.text + ")"
	switch {
	case of.kind == api.KChan:
		return "make chan of " + of.kids[0].text
	case of.kind != api.KProg || m.IntN(4) == 0:
		return received
	}
	params, res, body := of.kids, "", ""
	if of.res {
		last := len(of.kids) - 1
		params, res = of.kids[:last], ": "+of.kids[last].text
		body = "return (<-make chan of " + of.kids[last].text + ");"
	}
	var texts []string
	for k, param := range params {
		texts = append(texts, "p"+strconv.Itoa(k)+": "+param.text)
	}
	return "prog(" + strings.Join(texts, ", ") + ")" + res + " { " + body + " }"
}

func (m *maker) number(deep int) string {
	if deep <= 0 {
		return strconv.Itoa(m.IntN(9))
	}
	switch m.IntN(6) {
	case 0:
		return "-(" + m.expr(m.base[0], deep-1) + ")"
	case 1:
		return "len(" + m.expr(&sort{kind: api.KArray, text: "array of bool", kids: m.base[1:2]}, deep-1) + ")"
	case 2, 3, 4:
		return "(" + m.expr(m.base[0], deep-1) + " " + m.one("+", "+", "-", "-", "*", "*", "/", "%") + " (" + m.expr(m.base[0], deep-1) + "))"
	}
	return m.number(0)
}

func (m *maker) truth(deep int) string {
	if deep <= 0 {
		return m.one("true", "false")
	}
	deep--
	switch m.IntN(7) {
	case 0:
		return "!(" + m.expr(m.base[1], deep) + ")"
	case 1:
		return "((" + m.expr(m.base[0], deep) + ") " + m.one("<", "<=", ">", ">=") + " (" + m.expr(m.base[0], deep) + "))"
	case 2, 3:
		return "((" + m.expr(m.base[1], deep) + ") " + m.one("||", "&&") + " (" + m.expr(m.base[1], deep) + "))"
	case 4:
		one := m.sort(2)
		if one.kind != api.KInt && one.kind != api.KBool {
			one = chanOf(one)
		}
		return "((" + m.expr(one, deep) + ") " + m.one("==", "!=") + " (" + m.expr(one, deep) + "))"
	}
	return m.truth(0)
}

func (m *maker) prog(params []*sort, result *sort, deep int) string {
	names, block, around := m.names, m.block, m.result
	m.names = append([]known(nil), names...)
	for k, one := range names {
		if one.isVar {
			// It may not be used in here, but hides what it hid.
			m.names[k].sort, m.names[k].isVar = &sort{}, false
		}
	}
	whole := progSort(params, result)
	own, res := "", ""
	if result != nil {
		res = ": " + result.text
	}
	m.block = block + 1
	if m.IntN(2) == 0 {
		own = " " + m.declare(whole, false)
	}
	m.block++
	var texts []string
	for _, param := range params {
		texts = append(texts, m.declare(param, false)+": "+param.text)
	}
	m.result = result
	body := m.statements(m.IntN(4), deep-1)
	if result != nil {
		body += " " + m.end(deep-1)
	}
	m.names, m.block, m.result = names, block, around
	return "prog" + own + "(" + strings.Join(texts, ", ") + ")" + res + " { " + body + " }"
}

// end is a statement that ends.
func (m *maker) end(deep int) string {
	block := func() string {
		return m.inside(func() string { return "{ " + m.statements(m.IntN(2), deep-1) + " " + m.end(deep-1) + " }" })
	}
	if deep > 0 {
		switch m.IntN(6) {
		case 0:
			return block()
		case 1:
			return "if " + m.expr(m.base[1], deep-1) + " " + block() + " else " + block()
		case 2:
			return "select { " + m.one("", m.arm(deep-1, block), m.arm(deep-1, block)+" "+m.arm(deep-1, block)) + " }"
		}
	}
	return m.back(deep)
}

func (m *maker) back(deep int) string {
	if m.result == nil {
		return "return;"
	}
	return "return " + m.expr(m.result, deep) + ";"
}

// declare makes a name known from here on: one that the block has not.
func (m *maker) declare(of *sort, isVar bool) string {
	name := m.one("a", "b", "c", "d", "x", "y", "z", "input", "output")
	for _, one := range m.names {
		if one.name == name && one.block == m.block {
			name = "n" + strconv.Itoa(m.fresh)
			m.fresh++
		}
	}
	m.names = append(m.names, known{name, of, isVar, m.block})
	return name
}

// inside makes what stands in a block.
func (m *maker) inside(make func() string) string {
	kept := len(m.names)
	m.block++
	out := make()
	m.block--
	m.names = m.names[:kept]
	return out
}

func (m *maker) plain(deep int) string {
	return m.inside(func() string { return "{ " + m.statements(m.IntN(4), deep-1) + " }" })
}

func (m *maker) arm(deep int, block func() string) string {
	of := m.sort(1)
	switch m.IntN(3) {
	case 0:
		return "case <-(" + m.expr(chanOf(of), deep) + ") " + block()
	case 1:
		c := m.expr(chanOf(of), deep)
		// The arm's name and its block's count as one block.
		return m.inside(func() string {
			name := m.declare(of, false)
			m.block--
			body := block()
			m.block++
			return "case " + name + " = <-(" + c + ") " + body
		})
	}
	return "case (" + m.expr(chanOf(of), deep) + ") <-= " + m.expr(of, deep) + " " + block()
}

func (m *maker) set(deep int) string {
	var vars []known
	for _, one := range m.visible() {
		if one.isVar {
			vars = append(vars, one)
		}
	}
	if len(vars) == 0 {
		of := m.sort(2)
		return "var " + m.declare(of, true) + ": " + of.text + ";"
	}
	one := vars[m.IntN(len(vars))]
	place, of := one.name, one.sort
	for m.IntN(3) > 0 {
		switch of.kind {
		case api.KArray:
			place, of = place+"["+m.where(deep)+"]", of.kids[0]
		case api.KTuple:
			k := m.IntN(len(of.kids))
			place, of = place+"."+strconv.Itoa(k), of.kids[k]
		}
	}
	return place + " = " + m.expr(of, deep) + ";"
}

func (m *maker) arms(many, deep int) string {
	var out []string
	for range many {
		out = append(out, m.arm(deep, func() string { return m.plain(deep) }))
	}
	return strings.Join(out, " ")
}

func (m *maker) statement(deep int) string {
	of := m.sort(2)
	switch m.IntN(21) {
	case 0, 1, 2:
		e := m.expr(of, deep)
		return "val " + m.declare(of, false) + " = " + e + ";"
	case 3:
		e := "(<-make chan of " + of.text + ")"
		return "val " + m.declare(of, false) + " = " + e + ";"
	case 4:
		return "var " + m.declare(of, true) + ": " + of.text + ";"
	case 5, 6:
		e := m.expr(of, deep)
		return "var " + m.declare(of, true) + ": " + of.text + " = " + e + ";"
	case 7, 8, 9:
		return m.set(deep)
	case 10:
		return "(" + m.expr(chanOf(of), deep) + ") <-= " + m.expr(of, deep) + ";"
	case 11:
		return m.one("<-"+m.made(chanOf(of), deep), "(<-("+m.expr(chanOf(of), deep)+"))") + ";"
	case 12, 13, 14:
		params := []*sort{of, m.sort(1)}[:m.IntN(3)]
		result := []*sort{nil, of}[m.IntN(2)]
		call := "(" + m.expr(progSort(params, result), deep) + ")" + m.args(params, deep)
		return m.one("", "", "begin ") + m.one(call, "("+call+")", "(("+call+"))") + ";"
	case 15:
		return "if " + m.expr(m.base[1], deep) + " " + m.plain(deep) + m.one("", " else "+m.plain(deep), " else if "+m.expr(m.base[1], deep)+" "+m.plain(deep)+m.one("", " else "+m.plain(deep)))
	case 16, 17:
		return "while " + m.expr(m.base[1], deep) + " " + m.plain(deep)
	case 18:
		return "select { " + m.arms(m.IntN(4), deep) + " }"
	case 19:
		return m.plain(deep)
	}
	if m.IntN(3) > 0 {
		return m.plain(deep)
	}
	return m.back(deep)
}

func (m *maker) statements(many, deep int) string {
	var out []string
	for range many {
		if deep <= 0 {
			break
		}
		out = append(out, m.statement(deep-1))
	}
	return strings.Join(out, " ")
}

func (m *maker) program() string {
	m.base = declaredSorts()
	m.block, m.result, m.fresh = 1, nil, 0
	world := chanOf(m.base[0])
	m.names = []known{{"input", world, false, 0}, {"output", world, false, 0}}
	var out []string
	for _, k := range m.Perm(len(declared)) {
		out = append(out, declared[k])
	}
	return strings.Join(out, " ") + " " + m.statements(1+m.IntN(6), 2+m.IntN(4))
}
