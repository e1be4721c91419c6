package crew_test

import (
	"math/rand/v2"
	"strconv"
	"strings"

	"squint/api"
)

// maker makes programs of processes that speak to each other; and limits, and calls.
type maker struct {
	*rand.Rand
	names []known
	fresh int
}

// known is a name in scope. Sorts: i a number, c a channel of these, d a channel of channels, p a prog that takes a channel, t a channel and a number, v a number's var.
type known struct {
	name string
	sort byte
}

func newMaker(seed uint64) *maker { return &maker{Rand: rand.New(rand.NewPCG(seed, 16))} }

func (m *maker) one(of ...string) string { return of[m.IntN(len(of))] }

func (m *maker) declare(sort byte) string {
	name := "n" + strconv.Itoa(m.fresh)
	m.fresh++
	m.names = append(m.names, known{name, sort})
	return name
}

// named is a name of a sort; else "".
func (m *maker) named(sort byte) string {
	var fit []string
	for _, one := range m.names {
		if one.sort == sort {
			fit = append(fit, one.name)
		}
	}
	if len(fit) == 0 {
		return ""
	}
	return m.one(fit...)
}

func (m *maker) number(deep int) string {
	name := m.named('i')
	if deep > 0 {
		switch m.IntN(8) {
		case 0:
			return "(" + m.number(deep-1) + m.one(" + ", " - ", " * ", " / ") + m.number(deep-1) + ")"
		case 1:
			return "(<-" + m.channel(deep-1) + ")"
		case 2:
			return "[" + m.number(deep-1) + ", " + m.number(deep-1) + "][" + m.one("0", "1", "1", m.number(0)) + "]"
		case 3:
			if pair := m.named('t'); pair != "" {
				return pair + ".1"
			}
		case 4:
			if v := m.named('v'); v != "" {
				return v
			}
		}
	}
	if name == "" || m.IntN(3) == 0 {
		return strconv.Itoa(m.IntN(5))
	}
	return name
}

func (m *maker) channel(deep int) string {
	if deep > 0 {
		switch m.IntN(10) {
		case 0:
			return "(<-" + m.chanOfChan() + ")"
		case 1:
			return "(make chan of int)"
		case 2:
			if pair := m.named('t'); pair != "" {
				return pair + ".0"
			}
		}
	}
	if name := m.named('c'); name != "" && m.IntN(6) > 0 {
		return name
	}
	return m.one("input", "output", "input", "output", "(make chan of int)")
}

func (m *maker) chanOfChan() string {
	if name := m.named('d'); name != "" {
		return name
	}
	return "(make chan of chan of int)"
}

func (m *maker) prog(deep int) string {
	if name := m.named('p'); name != "" && m.IntN(2) == 0 {
		return name
	}
	kept := m.names
	m.names = nil
	for _, one := range kept {
		if one.sort != 'v' {
			m.names = append(m.names, one)
		}
	}
	own := ""
	if m.IntN(3) == 0 {
		own = " " + m.declare('p')
	}
	out := "prog" + own + "(" + m.declare('c') + ": chan of int) { " + m.statements(1+m.IntN(4), deep-1) + " }"
	m.names = kept
	return out
}

func (m *maker) block(deep int) string {
	kept := len(m.names)
	out := "{ " + m.statements(m.IntN(4), deep-1) + " }"
	m.names = m.names[:kept]
	return out
}

func (m *maker) arm(deep int) string {
	switch m.IntN(5) {
	case 0:
		return "case <-" + m.channel(0) + " " + m.block(deep)
	case 1:
		on, sort := m.channel(0), byte('i')
		if m.IntN(2) == 0 {
			on, sort = m.chanOfChan(), 'c'
		}
		kept := len(m.names)
		out := "case " + m.declare(sort) + " = <-" + on + " " + m.block(deep)
		m.names = m.names[:kept]
		return out
	case 2:
		return "case " + m.chanOfChan() + " <-= " + m.channel(0) + " " + m.block(deep)
	}
	return "case " + m.channel(0) + " <-= " + m.number(1) + " " + m.block(deep)
}

func (m *maker) arms(deep int) (out string) {
	for range m.IntN(4) + m.IntN(2) {
		out += m.arm(deep) + " "
	}
	return out
}

func (m *maker) declared(deep int) string {
	sort := "icdptv"[m.IntN(6)]
	var e string
	switch sort {
	case 'i':
		e = m.number(2)
	case 'c':
		e = m.one("make chan of int", m.channel(2))
	case 'd':
		e = "make chan of chan of int"
	case 'p':
		e = m.prog(deep)
	case 't':
		e = "(" + m.channel(1) + ", " + m.number(1) + ")"
	case 'v':
		return "var " + m.declare(sort) + ": int;"
	}
	return "val " + m.declare(sort) + " = " + e + ";"
}

func (m *maker) statement(deep int) string {
	switch k := m.IntN(24); {
	case k < 4:
		return m.declared(deep)
	case k < 7:
		return m.channel(1) + " <-= " + m.number(1) + ";"
	case k < 10:
		return m.one("<-"+m.channel(1), "<-"+m.chanOfChan()) + ";"
	case k < 12:
		return m.chanOfChan() + " <-= " + m.channel(1) + ";"
	case k < 16:
		return "begin (" + m.prog(deep) + ")(" + m.channel(1) + ");"
	case k < 17:
		return "(" + m.prog(deep) + ")(" + m.channel(1) + ");"
	case k < 19:
		return "select { " + m.arms(deep) + "}"
	case k < 21:
		return "while " + m.one("true", "true", "1 < "+m.number(1)) + " " + m.block(deep)
	case k < 22:
		return "if " + m.number(1) + m.one(" == ", " < ") + m.number(1) + " " + m.block(deep) + m.one("", " else "+m.block(deep))
	case k < 23:
		if v := m.named('v'); v != "" {
			return v + " = " + m.number(2) + ";"
		}
	}
	return m.block(deep)
}

func (m *maker) statements(many, deep int) string {
	var out []string
	for range many {
		if deep > 0 {
			out = append(out, m.statement(deep))
		}
	}
	return strings.Join(out, " ")
}

// program is a source of which nothing is wrong.
func (m *maker) program() string {
	m.names, m.fresh = nil, 0
	head := ""
	for range 1 + m.IntN(2) {
		head += "val " + m.declare('c') + " = make chan of int; "
	}
	if m.IntN(2) == 0 {
		head += "val " + m.declare('d') + " = make chan of chan of int; "
	}
	for range m.IntN(5) {
		head += "begin (" + m.prog(4) + ")(" + m.channel(0) + "); "
	}
	return head + m.statements(2+m.IntN(7), 4)
}

// limits are mostly great ones; else small, some of them.
func (m *maker) limits() api.Limits {
	l := api.Limits{Procs: 200, Live: 100, Chans: 200, Ticks: 400, Cells: 2000, Depth: 50, Nest: 1}
	if m.IntN(2) == 0 {
		return l
	}
	for _, one := range []*int{&l.Procs, &l.Live, &l.Chans, &l.Ticks, &l.Cells, &l.Depth} {
		if m.IntN(3) == 0 {
			*one = 1 + m.IntN(8)
		}
	}
	if m.IntN(6) == 0 {
		l.Chans = 0
	}
	return l
}

// choice is a call: a kind of pick, its number and what is sent.
type choice api.Pick

// choose is a call that mostly does something, of a crew in which so many transitions can happen.
func (m *maker) choose(count int) choice {
	odd := []int{-1, count, count + 1, least, greatest}[m.IntN(5)]
	x := choice{Kind: api.PickStep, N: m.IntN(max(count, 1)), V: m.IntN(20) - 10}
	k := m.IntN(20)
	if count == 0 {
		// The world alone can let something happen.
		k /= 2
	}
	switch {
	case k < 2:
		x.Kind, x.N = api.PickIn, m.IntN(2)
	case k < 4:
		x.Kind, x.N = api.PickOut, m.IntN(2)
	case k < 6:
		x.Kind = api.PickProbe
	}
	if m.IntN(30) == 0 {
		x.N = odd
	}
	if m.IntN(30) == 0 {
		x.V = []int{least, greatest}[m.IntN(2)]
	}
	return x
}

// do makes the call.
func (x choice) do(c face, reap bool) []api.Event {
	switch x.Kind {
	case api.PickIn:
		return c.In(x.N, x.V)
	case api.PickOut:
		return c.Out(x.N)
	case api.PickProbe:
		return c.Probe(reap)
	}
	return c.Step(x.N)
}
