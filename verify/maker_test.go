package verify

import (
	"math/rand/v2"
	"slices"

	"squint/api"
)

// maker makes up units.
type maker struct{ *rand.Rand }

func newMaker(seed uint64) maker { return maker{rand.New(rand.NewPCG(seed, 9))} }

func pick[T any](m maker, list []T) T { return list[m.IntN(len(list))] }

// unit is one that Check takes: progs that are written as a build might write them, and in a few ways that none does.
func (m maker) unit() api.Unit {
	u := api.Unit{Types: rowsTried, Progs: []api.Prog{{Slots: m.slots(), Caps: 2}}}
	for range m.IntN(3) {
		u.Progs = append(u.Progs, m.head())
	}
	for n := range u.Progs {
		u.Progs[n].Code = m.code(u.Progs, u.Progs[n], 1+m.IntN(6))
	}
	return u
}

func (m maker) slots() int { return pick(m, []int{0, 1, 2, 3, 5, 64, 65, 130}) }

func (m maker) head() api.Prog {
	one := api.Prog{Slots: m.slots(), Caps: m.IntN(4), Res: m.IntN(2) == 0}
	one.Params = m.IntN(one.Slots + 1)
	return one
}

func (m maker) code(progs []api.Prog, head api.Prog, statements int) []api.Ins {
	w := writer{maker: m, progs: progs, head: head, has: make([]bool, head.Slots), left: 40}
	for slot := range head.Params {
		w.has[slot] = true
	}
	for range statements {
		w.statement()
	}
	w.ret()
	return w.code
}

// writer writes a prog's code; height is how many values stand below what is being written.
type writer struct {
	maker
	progs  []api.Prog
	head   api.Prog
	code   []api.Ins
	has    []bool
	height int
	left   int
}

func (w *writer) put(op, a int) int {
	w.code = append(w.code, api.Ins{Op: op, A: a})
	return len(w.code) - 1
}

// here lets an instruction go on with the next one that is written.
func (w *writer) here(at int) { w.code[at].A = len(w.code) }

func (w *writer) ret() {
	if w.head.Res {
		w.expression()
	}
	w.put(api.IRet, 0)
}

// slot is one of those that have a value, or have none; -1: there is no such.
func (w *writer) slot(has bool) int {
	var list []int
	for slot, is := range w.has {
		if is == has {
			list = append(list, slot)
		}
	}
	if len(list) == 0 {
		return -1
	}
	return pick(w.maker, list)
}

func (w *writer) values(many int) {
	for range many {
		w.expression()
		w.height++
	}
	w.height -= many
}

// expression lays one value.
func (w *writer) expression() {
	w.left--
	if w.left < 0 {
		w.put(api.IInt, w.IntN(9)-4)
		return
	}
	switch w.IntN(16) {
	case 0:
		w.put(api.IBool, w.IntN(2))
	case 1:
		w.put(api.IZero, w.IntN(6))
	case 2, 3:
		if slot := w.slot(true); slot >= 0 {
			w.put(api.ILoad, slot)
			return
		}
		w.put(api.ISelf, 0)
	case 4:
		if w.head.Caps > 0 {
			w.put(api.ICap, w.IntN(w.head.Caps))
			return
		}
		w.put(api.IMake, 0)
	case 5:
		many := 2 + w.IntN(2)
		w.values(many)
		w.put(api.ITuple, many)
	case 6:
		many := w.IntN(3)
		w.values(many)
		w.put(api.IArray, many)
	case 7:
		w.values(2)
		w.put(pick(w.maker, []int{api.IFill, api.IIndex}), 0)
	case 8:
		w.values(1)
		w.put(api.ILen, 0)
	case 9:
		w.values(1)
		w.put(api.IField, w.IntN(3))
	case 10:
		w.values(1)
		w.put(api.IUnary, 1+w.IntN(2))
	case 11:
		w.values(2)
		w.put(api.IBin, pick(w.maker, []int{21, 22, 23, 24, 25, 26, 31, 32, 41, 42, 43}))
	case 12:
		n := w.IntN(len(w.progs))
		w.values(w.progs[n].Caps)
		w.code[w.put(api.IProg, n)].B = w.progs[n].Caps
	case 13:
		many := w.IntN(3)
		w.values(1 + many)
		w.code[w.put(api.ICall, many)].B = 1
	case 14:
		w.values(1)
		at := w.put(api.IWait, 0)
		w.code[at].List = []int{0, len(w.code)}
	case 15:
		w.both()
	}
}

// both is what && and || come to.
func (w *writer) both() {
	w.expression()
	to := w.put(api.IFalse, 0)
	w.expression()
	over := w.put(api.IJump, 0)
	w.here(to)
	w.put(api.IBool, 0)
	w.here(over)
}

func (w *writer) statement() {
	w.left--
	if w.left < 0 {
		return
	}
	switch w.IntN(12) {
	case 0, 1, 2:
		w.store()
	case 3:
		w.part()
	case 4:
		w.expression()
		w.height++
		w.statement()
		w.height--
		w.put(api.IPop, 0)
	case 5:
		many := w.IntN(3)
		w.values(1 + many)
		w.put(pick(w.maker, []int{api.ICall, api.IBegin}), many)
	case 6, 7:
		w.either()
	case 8:
		w.loop()
	case 9:
		w.choice()
	case 10:
		w.around()
	case 11:
		w.stop()
	}
}

func (w *writer) store() {
	if slot := w.slot(w.IntN(3) == 0); slot >= 0 {
		w.expression()
		w.put(api.IStore, slot)
		w.has[slot] = true
	}
}

func (w *writer) part() {
	slot := w.slot(true)
	if slot < 0 {
		return
	}
	var list []int
	for range 1 + w.IntN(3) {
		list = append(list, w.IntN(3)-1)
	}
	w.values(1 + ofIndex(list))
	w.code[w.put(api.IPart, slot)].List = list
}

func ofIndex(list []int) int {
	many := 0
	for _, step := range list {
		if step == -1 {
			many++
		}
	}
	return many
}

// block is a few statements behind which just those slots have a value that had one ahead.
func (w *writer) block() {
	ahead := slices.Clone(w.has)
	for range w.IntN(3) {
		w.statement()
	}
	if slot := w.slot(true); slot >= 0 && w.IntN(4) == 0 {
		w.put(api.IClear, slot)
		w.has[slot] = false
	}
	for slot, had := range ahead {
		if had && !w.has[slot] {
			w.put(api.IMake, 0)
			w.put(api.IStore, slot)
		}
		if !had && w.has[slot] {
			w.put(api.IClear, slot)
		}
	}
	copy(w.has, ahead)
}

func (w *writer) either() {
	w.expression()
	to := w.put(api.IFalse, 0)
	w.block()
	if w.IntN(2) == 0 {
		over := w.put(api.IJump, 0)
		w.here(to)
		w.block()
		to = over
	}
	w.here(to)
	w.put(api.IMake, 0)
	w.put(api.IPop, 0)
}

func (w *writer) loop() {
	top := len(w.code)
	w.expression()
	to := w.put(api.IFalse, 0)
	w.block()
	w.put(api.IBack, top)
	w.here(to)
	w.put(api.IMake, 0)
	w.put(api.IPop, 0)
}

// choice is a wait with some arms, each with a block.
func (w *writer) choice() {
	var list []int
	for range w.IntN(4) {
		list = append(list, w.IntN(2), 0)
	}
	takes := 0
	for arm := 0; arm < len(list); arm += 2 {
		takes += 1 + list[arm]
	}
	w.values(takes)
	at := w.put(api.IWait, 0)
	w.code[at].List = list
	var over []int
	for arm := 0; arm < len(list); arm += 2 {
		list[arm+1] = len(w.code)
		if list[arm] == 0 {
			w.put(api.IPop, 0)
		}
		w.block()
		over = append(over, w.put(api.IJump, 0))
	}
	for _, one := range over {
		w.here(one)
	}
	w.put(api.IMake, 0)
	w.put(api.IPop, 0)
}

// around goes over a block, and then back into it.
func (w *writer) around() {
	first := w.put(api.IJump, 0)
	w.block()
	out := w.put(api.IJump, 0)
	w.here(first)
	w.put(api.IBack, first+1)
	w.here(out)
	w.put(api.IMake, 0)
	w.put(api.IPop, 0)
}

// stop ends the way, if it may; what is written behind is never come to, if no other way leads there.
func (w *writer) stop() {
	if w.IntN(3) == 0 {
		w.put(api.IWait, 0)
	} else if w.height == 0 {
		w.ret()
	}
}

// instruction is any one that is right on its own as number at of a prog.
func (m maker) instruction(u api.Unit, p api.Prog, at int) api.Ins {
	p.Code = slices.Clone(p.Code)
	for {
		p.Code[at] = m.any(u, p)
		if readAlone(u, p, at) == api.OK {
			return p.Code[at]
		}
	}
}

// any is an instruction that may well be right.
func (m maker) any(u api.Unit, p api.Prog) api.Ins {
	i := api.Ins{Op: 1 + m.IntN(api.Ops)}
	switch i.Op {
	case api.ISelf, api.IPop, api.IFill, api.ILen, api.IIndex, api.IRet, api.IMake:
	case api.IProg:
		i.A = m.IntN(len(u.Progs))
		i.B = u.Progs[i.A].Caps
	case api.IBin:
		i.A = 21 + m.IntN(23)
	case api.IJump, api.IFalse, api.IBack:
		i.A = m.IntN(len(p.Code))
	case api.IWait:
		for range m.IntN(3) {
			i.List = append(i.List, m.IntN(2), m.IntN(len(p.Code)))
		}
	case api.IPart:
		i.A, i.List = m.IntN(p.Slots+1), []int{m.IntN(2) - 1}
	default:
		i.A = m.IntN(4)
	}
	if i.Op == api.ICall {
		i.B = m.IntN(2)
	}
	return i
}

// copied is a unit of which nothing is shared with the one it is made of.
func copied(u api.Unit) api.Unit {
	u.Types, u.Progs = slices.Clone(u.Types), slices.Clone(u.Progs)
	for n := range u.Types {
		u.Types[n].Kids = slices.Clone(u.Types[n].Kids)
	}
	for n := range u.Progs {
		u.Progs[n].Code = slices.Clone(u.Progs[n].Code)
		for at := range u.Progs[n].Code {
			u.Progs[n].Code[at].List = slices.Clone(u.Progs[n].Code[at].List)
		}
	}
	return u
}

// spoilt is a unit with a few changes, mostly of one instruction.
func (m maker) spoilt(u api.Unit) api.Unit {
	u = copied(u)
	for range 1 + m.IntN(2) {
		p := &u.Progs[m.IntN(len(u.Progs))]
		if len(p.Code) == 0 {
			continue
		}
		at := m.IntN(len(p.Code))
		i := &p.Code[at]
		switch m.IntN(9) {
		case 0:
			i.A += pick(m, []int{-1, 1, 1 << 40})
		case 1:
			i.B += pick(m, []int{-1, 1})
		case 2:
			if len(i.List) > 0 {
				i.List[m.IntN(len(i.List))] += pick(m, []int{-1, 1})
			} else {
				i.List = []int{m.IntN(2)}
			}
		case 3:
			*i = m.instruction(u, *p, at)
		case 4:
			*i = m.any(u, *p)
		case 5:
			p.Code = slices.Delete(p.Code, at, at+1)
		case 6:
			p.Code = slices.Insert(p.Code, at, m.any(u, *p))
		case 7:
			other := &p.Code[m.IntN(len(p.Code))]
			*i, *other = *other, *i
		case 8:
			m.spoilHead(&u, p)
		}
	}
	return u
}

func (m maker) spoilHead(u *api.Unit, p *api.Prog) {
	switch m.IntN(6) {
	case 0:
		p.Params += m.IntN(3) - 1
	case 1:
		p.Slots--
	case 2:
		p.Caps += m.IntN(3) - 1
	case 3:
		p.Res = !p.Res
	case 4:
		p.Code = p.Code[:m.IntN(len(p.Code)+1)]
	case 5:
		u.Types[m.IntN(len(u.Types))].Kind = 1 + m.IntN(6)
	}
}
