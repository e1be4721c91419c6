package host_test

import (
	"math/rand/v2"
	"strconv"
	"strings"

	"squint/api"
)

// sort is a type; its texts are the ways in which made programs write it.
type sort struct {
	texts []string
	kind  int
	kids  []*sort
	res   bool
}

// declared stands at the head of made programs, in any order.
var declared = []string{"type T = chan of T;", "type U = chan of chan of U;", "type I = int;", "type P = (I, C);", "type C = chan of int;", "type G = prog(C);"}

// known is a name in scope.
type known struct {
	name  string
	sort  *sort
	isVar bool
	block int
}

// maker makes programs of processes that speak to each other, of which nothing is wrong; and limits, and picks.
type maker struct {
	*rand.Rand
	number, truth, channel *sort
	base                   []*sort
	chans                  map[*sort]*sort // the channels of a type
	names                  []known
	block, fresh           int
	result                 *sort // of the prog that is being made
	size                   int   // how many more statements and progs there may be
}

func newMaker(seed uint64) *maker {
	m := &maker{Rand: rand.New(rand.NewPCG(seed, 19)), chans: map[*sort]*sort{}}
	m.number = &sort{texts: []string{"int", "int", "I"}, kind: api.KInt}
	m.truth = &sort{texts: []string{"bool"}, kind: api.KBool}
	m.channel = m.chanOf(m.number, "C", "chan of I", "chan of int")
	array := &sort{texts: []string{"array of int", "array of I"}, kind: api.KArray, kids: []*sort{m.number}}
	pair := &sort{texts: []string{"P", "(int, C)"}, kind: api.KTuple, kids: []*sort{m.number, m.channel}}
	pairs := &sort{texts: []string{"array of P", "array of (int, chan of int)"}, kind: api.KArray, kids: []*sort{pair}}
	fn := &sort{texts: []string{"prog(int): int"}, kind: api.KProg, kids: []*sort{m.number, m.number}, res: true}
	g := &sort{texts: []string{"G", "prog(chan of int)"}, kind: api.KProg, kids: []*sort{m.channel}}
	h := &sort{texts: []string{"prog(P, G): C"}, kind: api.KProg, kids: []*sort{pair, g, m.channel}, res: true}
	end := &sort{texts: []string{"T", "U", "chan of T", "chan of U", "chan of chan of T"}, kind: api.KChan}
	end.kids = []*sort{end}
	m.chans[end] = end
	m.base = []*sort{m.number, m.truth, m.channel, m.chanOf(m.channel), array, pair, pairs, fn, g, h, end, m.chanOf(g), m.chanOf(array), m.chanOf(pair), m.number, m.channel, m.channel, g, m.chanOf(m.truth)}
	return m
}

// chanOf is the channels of a type.
func (m *maker) chanOf(of *sort, texts ...string) *sort {
	if c := m.chans[of]; c != nil {
		return c
	}
	if len(texts) == 0 {
		for _, text := range of.texts {
			texts = append(texts, "chan of "+text)
		}
	}
	m.chans[of] = &sort{texts: texts, kind: api.KChan, kids: []*sort{of}}
	return m.chans[of]
}

func (m *maker) one(of ...string) string { return of[m.IntN(len(of))] }

func (m *maker) sort() *sort { return m.base[m.IntN(len(m.base))] }

// talk is a type of channels: mostly one of which there is a name.
func (m *maker) talk() *sort {
	var fit []*sort
	for _, one := range m.visible() {
		if one.sort.kind == api.KChan {
			fit = append(fit, one.sort)
		}
	}
	if len(fit) == 0 || m.IntN(12) == 0 {
		return m.chanOf(m.sort())
	}
	return fit[m.IntN(len(fit))]
}

func (m *maker) write(of *sort) string { return m.one(of.texts...) }

// declare makes a name known from here on: one that the block has not.
func (m *maker) declare(of *sort, isVar bool) string {
	name := m.one("a", "b", "c", "d", "x", "y", "z", "n"+strconv.Itoa(m.fresh))
	if m.IntN(60) == 0 {
		name = m.one("input", "output", "T", "C", "_")
	}
	for _, one := range m.names {
		if one.name == name && one.block == m.block {
			name = "n" + strconv.Itoa(m.fresh)
		}
	}
	m.fresh++
	m.names = append(m.names, known{name, of, isVar, m.block})
	return name
}

// visible are the names that are not hidden.
func (m *maker) visible() (out []known) {
	last := map[string]int{}
	for k, one := range m.names {
		last[one.name] = k
	}
	for k, one := range m.names {
		if last[one.name] == k && one.sort != nil {
			out = append(out, one)
		}
	}
	return out
}

// byName is a name of a type, or a part of one, or what comes of one; "", if there is none.
func (m *maker) byName(of *sort, deep int) string {
	var fit []string
	for _, one := range m.visible() {
		kids := one.sort.kids
		if one.sort == of {
			fit = append(fit, one.name, one.name, one.name)
			continue
		}
		switch {
		case one.sort.kind == api.KArray && kids[0] == of:
			fit = append(fit, one.name+"["+m.index(deep-1)+"]")
		case one.sort.kind == api.KChan && kids[0] == of && m.IntN(9) == 0 && one.name != "output":
			fit = append(fit, "(<-"+one.name+")")
		case one.sort.res && kids[len(kids)-1] == of && deep > 0:
			fit = append(fit, one.name+m.args(one.sort, deep))
		case one.sort.kind == api.KTuple:
			for k, kid := range kids {
				if kid == of {
					fit = append(fit, one.name+"."+strconv.Itoa(k))
				}
			}
		}
	}
	if len(fit) == 0 {
		return ""
	}
	return m.one(fit...)
}

// index is mostly one that may be there.
func (m *maker) index(deep int) string {
	if m.IntN(4) == 0 {
		return m.expr(m.number, deep)
	}
	return m.one("0", "0", "0", "1")
}

func (m *maker) args(of *sort, deep int) string {
	var out []string
	for k, kid := range of.kids {
		if !of.res || k < len(of.kids)-1 {
			out = append(out, m.expr(kid, deep-1))
		}
	}
	return "(" + strings.Join(out, ", ") + ")"
}

// expr is an expression of a type.
func (m *maker) expr(of *sort, deep int) string {
	if m.IntN(6) > 0 {
		if e := m.byName(of, deep-1); e != "" {
			return e
		}
	}
	if deep > 0 && m.IntN(7) == 0 {
		return m.roundabout(of, deep-1)
	}
	switch of.kind {
	case api.KInt:
		return m.sum(deep - 1)
	case api.KBool:
		return m.condition(deep - 1)
	case api.KArray:
		e := m.expr(of.kids[0], deep-1)
		return m.one("["+e+"]", "["+e+", "+m.expr(of.kids[0], deep-1)+"]", "fill("+m.one(m.index(deep-1), m.expr(m.number, deep-1))+", "+e+")")
	case api.KTuple:
		return "(" + m.expr(of.kids[0], deep-1) + ", " + m.expr(of.kids[1], deep-1) + ")"
	case api.KChan:
		return "make chan of " + m.write(of.kids[0])
	}
	return m.prog(of, deep-1)
}

// roundabout is an expression out of which one of a type comes.
func (m *maker) roundabout(of *sort, deep int) string {
	e := m.expr(of, deep)
	switch m.IntN(5) {
	case 0:
		return "(" + e + ")"
	case 1:
		return "(" + e + ", " + m.expr(m.sort(), deep) + ").0"
	case 2:
		return "[" + e + ", " + m.expr(of, deep) + "][" + m.index(deep) + "]"
	case 3:
		return "prog(): " + m.write(of) + " { return " + m.closed(func() string { return m.expr(of, deep) }) + "; }()"
	}
	return "(<-" + m.unary(m.chanOf(of), deep) + ")"
}

// end is an expression of a channel: mostly a name of one with which there is something to be done in that direction.
func (m *maker) end(of *sort, send bool, deep int) string {
	not := "output"
	if send {
		not = "input"
	}
	var fit []string
	for _, one := range m.visible() {
		if one.sort == of && one.name != not {
			fit = append(fit, one.name)
		}
	}
	if len(fit) == 0 || m.IntN(12) == 0 {
		return m.unary(of, deep)
	}
	return m.one(fit...)
}

// unary is an expression that may stand behind an operator.
func (m *maker) unary(of *sort, deep int) string {
	if e := m.byName(of, 0); e != "" && m.IntN(12) > 0 {
		return e
	}
	return "(" + m.expr(of, deep) + ")"
}

func (m *maker) sum(deep int) string {
	if deep <= 0 || m.IntN(3) == 0 {
		return m.one("0", "0", "1", "2", "3", "7", "9223372036854775807")
	}
	switch m.IntN(6) {
	case 0:
		return "-" + m.unary(m.number, deep)
	case 1:
		return "len(" + m.expr(m.base[4], deep) + ")"
	}
	return "(" + m.unary(m.number, deep) + " " + m.one("+", "-", "*", "+", "-", "/", "%") + " " + m.unary(m.number, deep) + ")"
}

func (m *maker) condition(deep int) string {
	if deep <= 0 {
		return m.one("true", "false")
	}
	switch m.IntN(6) {
	case 0:
		return "!" + m.unary(m.truth, deep)
	case 1:
		return m.unary(m.truth, deep) + m.one(" && ", " || ") + m.unary(m.truth, deep)
	case 2:
		of := []*sort{m.number, m.truth, m.channel, m.base[3]}[m.IntN(4)]
		return m.unary(of, deep) + m.one(" == ", " != ") + m.unary(of, deep)
	case 3:
		return m.one("true", "false")
	}
	return m.unary(m.number, deep) + m.one(" < ", " <= ", " > ", " >= ") + m.unary(m.number, deep)
}

// closed makes what stands in a prog: vars of outside may not be used there, but hide what they hid.
func (m *maker) closed(inside func() string) string {
	kept := m.names
	m.names = append([]known(nil), kept...)
	for k, one := range kept {
		if one.isVar {
			m.names[k].sort = nil
		}
	}
	out := inside()
	m.names = kept
	return out
}

func (m *maker) prog(of *sort, deep int) string {
	return m.closed(func() string {
		block, around := m.block, m.result
		own, res := "", ""
		m.block++
		if m.IntN(3) == 0 {
			own = " " + m.declare(of, false)
		}
		m.block++
		params := of.kids
		m.result = nil
		if of.res {
			last := len(of.kids) - 1
			params, m.result = of.kids[:last], of.kids[last]
			res = ": " + m.write(m.result)
		}
		var texts []string
		for _, param := range params {
			texts = append(texts, m.declare(param, false)+": "+m.write(param))
		}
		var body string
		if m.IntN(3) == 0 {
			body = "while " + m.one("true", m.expr(m.truth, 2)) + " " + m.plain(deep)
		} else {
			body = m.statements(m.IntN(4)+m.IntN(2), deep)
		}
		if of.res {
			body += " return " + m.expr(m.result, min(deep, 1)) + ";"
		}
		m.block, m.result = block, around
		return "prog" + own + "(" + strings.Join(texts, ", ") + ")" + res + " { " + body + " }"
	})
}

// inside makes what stands in a block.
func (m *maker) inside(of func() string) string {
	kept := len(m.names)
	m.block++
	out := of()
	m.block--
	m.names = m.names[:kept]
	return out
}

func (m *maker) plain(deep int) string {
	return m.inside(func() string { return "{ " + m.statements(m.IntN(4), deep-1) + " }" })
}

func (m *maker) arm(deep int) string {
	on := m.talk()
	switch m.IntN(3) {
	case 0:
		return "case <-" + m.end(on, false, deep) + " " + m.plain(deep)
	case 1:
		c := m.end(on, false, deep)
		return m.inside(func() string {
			return "case " + m.declare(on.kids[0], false) + " = <-" + c + " { " + m.statements(m.IntN(3), deep-1) + " }"
		})
	}
	return "case " + m.end(on, true, deep) + " <-= " + m.expr(on.kids[0], deep) + " " + m.plain(deep)
}

// set sets a var, or a part of one.
func (m *maker) set(deep int) string {
	var vars []known
	for _, one := range m.visible() {
		if one.isVar {
			vars = append(vars, one)
		}
	}
	if len(vars) == 0 {
		of := m.sort()
		return "var " + m.declare(of, true) + ": " + m.write(of) + ";"
	}
	one := vars[m.IntN(len(vars))]
	place, of := one.name, one.sort
	for m.IntN(4) > 0 && (of.kind == api.KArray || of.kind == api.KTuple) {
		if of.kind == api.KArray {
			place, of = place+"["+m.index(deep)+"]", of.kids[0]
			continue
		}
		k := m.IntN(len(of.kids))
		place, of = place+"."+strconv.Itoa(k), of.kids[k]
	}
	return place + " = " + m.expr(of, deep) + ";"
}

func (m *maker) declaration(deep int) string {
	of := m.sort()
	switch m.IntN(5) {
	case 0:
		return "var " + m.declare(of, true) + ": " + m.write(of) + ";"
	case 1:
		e := m.expr(of, deep)
		return "var " + m.declare(of, true) + ": " + m.write(of) + " = " + e + ";"
	}
	e := m.expr(of, deep)
	return "val " + m.declare(of, false) + " = " + e + ";"
}

// call is a call of a prog.
func (m *maker) call(deep int) string {
	if m.IntN(4) == 0 {
		return m.prog(&sort{kind: api.KProg, kids: []*sort{m.talk()}, res: true}, deep) + "()"
	}
	if m.IntN(3) == 0 {
		return m.prog(&sort{kind: api.KProg}, deep) + "()"
	}
	of := []*sort{m.base[7], m.base[8], m.base[8], m.base[8], m.base[9]}[m.IntN(5)]
	call := m.unary(of, deep) + m.args(of, deep)
	return m.one(call, call, "("+call+")", "(("+call+"))")
}

func (m *maker) sends(on *sort, deep int) string {
	return m.end(on, true, deep) + " <-= " + m.expr(on.kids[0], deep) + ";"
}

func (m *maker) receives(on *sort, deep int) string {
	e := "<-" + m.end(on, false, deep)
	switch m.IntN(4) {
	case 0:
		return e + ";"
	case 1:
		return "(" + e + ");"
	}
	return "val " + m.declare(on.kids[0], false) + " = " + e + ";"
}

// partner is a process that sends on a channel, or receives there, once or for good.
func (m *maker) partner(on *sort) string {
	does := func() string {
		ahead := m.statements(m.IntN(2), 3)
		if m.IntN(2) == 0 {
			return ahead + " " + m.sends(on, 2) + " " + m.statements(m.IntN(3), 3)
		}
		return ahead + " " + m.receives(on, 2) + " " + m.statements(m.IntN(3), 3)
	}
	around := m.result
	m.result = nil
	body := m.closed(func() string { return m.inside(does) })
	m.result = around
	return m.one("begin prog() { while true { "+body+" } }();", "begin prog() { "+body+" }();")
}

func (m *maker) statement(deep int) string {
	on := m.talk()
	switch k := m.IntN(30); {
	case k < 5:
		return m.declaration(deep)
	case k < 8:
		return m.set(deep)
	case k < 12:
		return m.sends(on, deep)
	case k < 15:
		return m.receives(on, deep)
	case k < 20:
		return "begin " + m.call(deep) + ";"
	case k < 21:
		return m.call(deep) + ";"
	case k < 23:
		return "select { " + strings.Join([]string{m.arm(deep), m.arm(deep), m.arm(deep)}[:m.IntN(4)], " ") + " }"
	case k < 26:
		return "while " + m.expr(m.truth, 2) + " " + m.plain(deep)
	case k < 28:
		return "if " + m.expr(m.truth, 2) + " " + m.plain(deep) + m.one("", " else "+m.plain(deep), " else if "+m.expr(m.truth, 2)+" "+m.plain(deep))
	case k < 29 && m.IntN(4) == 0:
		if m.result == nil {
			return "return;"
		}
		return "return " + m.expr(m.result, deep) + ";"
	}
	return m.plain(deep)
}

func (m *maker) statements(many, deep int) string {
	var out []string
	for range many {
		if deep <= 0 || m.size <= 0 {
			break
		}
		m.size--
		out = append(out, m.statement(deep-1))
	}
	return strings.Join(out, " ")
}

// program is a source of which nothing is wrong.
func (m *maker) program() string {
	m.block, m.fresh, m.result, m.size = 1, 0, nil, 60
	m.names = []known{{"input", m.channel, false, 0}, {"output", m.channel, false, 0}}
	var out []string
	for _, k := range m.Perm(len(declared)) {
		out = append(out, declared[k])
	}
	out = append(out, "val "+m.declare(m.number, false)+" = "+m.one("2", "0", "-1")+";")
	for range 1 + m.IntN(3) {
		on := m.chanOf(m.sort())
		out = append(out, "val "+m.declare(on, false)+" = make chan of "+m.write(on.kids[0])+";")
	}
	for range m.IntN(6) {
		m.size = 8
		out = append(out, m.one("begin "+m.call(5)+";", m.partner(m.talk()), m.partner(m.talk())))
	}
	m.size = 40
	return strings.Join(out, " ") + " " + m.statements(2+m.IntN(8), 2+m.IntN(4))
}

// limits are mostly great ones; else some of them are small.
func (m *maker) limits() api.Limits {
	l := api.Limits{Procs: 300, Live: 100, Chans: 300, Ticks: 500, Cells: 5000, Depth: 60, Nest: 1000}
	if m.IntN(2) == 0 {
		return l
	}
	for k, n := range []int{6, 5, 8, 8, 60, 5} {
		if m.IntN(4) == 0 {
			l = turned(l, k, 1+m.IntN(n))
		}
	}
	if m.IntN(8) == 0 {
		l.Chans = 0
	}
	return l
}

// pick is one that mostly does something, where so many transitions can happen.
func (m *maker) pick(count int) api.Pick {
	p := api.Pick{Kind: api.PickStep, N: m.IntN(max(count, 1)), V: m.IntN(9) - 2}
	k := m.IntN(20)
	if count == 0 {
		// The world alone can let something happen.
		k /= 4
	}
	switch k {
	case 0:
		p.Kind, p.N = api.PickIn, m.IntN(2)
	case 1:
		p.Kind, p.N = api.PickOut, m.IntN(2)
	case 2:
		p.Kind = api.PickProbe
	}
	switch m.IntN(50) {
	case 0:
		p.N = []int{count, count + 1, -1, -2, least, greatest}[m.IntN(6)]
	case 1:
		p.V = []int{least, greatest}[m.IntN(2)]
	case 2:
		p.Kind = oddKinds[m.IntN(len(oddKinds))]
	}
	return p
}
