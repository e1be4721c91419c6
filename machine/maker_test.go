package machine_test

import (
	"math"
	"math/rand/v2"
	"slices"

	"squint/api"
)

// maker makes up units that verify takes, and values of any kind.
type maker struct{ *rand.Rand }

func newMaker(seed uint64) maker { return maker{rand.New(rand.NewPCG(seed, 11))} }

func pick[T any](m maker, list ...T) T { return list[m.IntN(len(list))] }

// rowsMade are the types of made units, each with its values' kind.
var rowsMade = []api.Type{
	{Kind: api.KInt}, {Kind: api.KBool}, {Kind: api.KArray, Kids: []int{0}}, {Kind: api.KTuple, Kids: []int{0, 1}}, {Kind: api.KChan, Kids: []int{0}},
	{Kind: api.KProg, Kids: []int{0}, Res: true}, {Kind: api.KTuple, Kids: []int{3, 4, 2}}, {Kind: api.KProg},
}

// someKind is one of those that values have.
func (m maker) someKind() int { return 1 + m.IntN(6) }

func (m maker) kinds(many int) []int {
	var out []int
	for range many {
		out = append(out, m.someKind())
	}
	return out
}

// head is a prog, and of what kinds its parameters, captured values and result are, if all goes well.
type head struct {
	api.Prog
	params, caps []int
	result       int
}

func (m maker) unit() api.Unit {
	heads := []head{{Prog: api.Prog{Slots: m.slots(), Caps: 2}, caps: []int{api.VChan, api.VChan}}}
	for range 1 + m.IntN(3) {
		heads = append(heads, m.head())
	}
	u := api.Unit{Types: rowsMade}
	for n := range heads {
		w := writer{maker: m, heads: heads, head: heads[n], has: make([]int, heads[n].Slots), left: 60}
		u.Progs = append(u.Progs, w.whole())
	}
	return u
}

func (m maker) slots() int { return pick(m, 0, 1, 2, 3, 5, 8) }

func (m maker) head() head {
	one := head{Prog: api.Prog{Slots: m.slots(), Caps: m.IntN(4), Res: m.IntN(2) == 0}}
	one.Params = min(m.IntN(4), one.Slots)
	one.params, one.caps = m.kinds(one.Params), m.kinds(one.Caps)
	if one.Res {
		one.result = m.someKind()
	}
	return one
}

// writer writes a prog's code. has tells of each slot the kind of its value, or 0: it has none; height is how many values stand below what is being written.
type writer struct {
	maker
	heads  []head
	head   head
	code   []api.Ins
	has    []int
	height int
	left   int
}

func (w *writer) whole() api.Prog {
	copy(w.has, w.head.params)
	for range 1 + w.IntN(7) {
		w.statement()
	}
	w.ret()
	w.head.Code = w.code
	return w.head.Prog
}

func (w *writer) put(op, a int) int {
	w.code = append(w.code, api.Ins{Op: op, A: a})
	return len(w.code) - 1
}

// here lets an instruction go on with the next one that is written.
func (w *writer) here(at int) { w.code[at].A = len(w.code) }

func (w *writer) ret() {
	if w.head.Res {
		w.expression(w.head.result)
	}
	w.put(api.IRet, 0)
}

// slot is one whose value is of a kind (of any but none, if that is 0; with none, if it is -1); -1: there is no such.
func (w *writer) slot(kind int) int {
	var list []int
	for slot, is := range w.has {
		if kind > 0 && is == kind || kind == 0 && is != 0 || kind == -1 && is == 0 {
			list = append(list, slot)
		}
	}
	if len(list) == 0 {
		return -1
	}
	return pick(w.maker, list...)
}

// values lays one of each kind.
func (w *writer) values(kinds ...int) {
	for _, kind := range kinds {
		w.expression(kind)
		w.height++
	}
	w.height -= len(kinds)
}

// expression lays one value, mostly of the kind that is wanted.
func (w *writer) expression(kind int) {
	if w.left--; w.IntN(40) == 0 {
		kind = w.someKind()
	}
	if w.left < 0 {
		w.plain(kind)
		return
	}
	switch w.IntN(12) {
	case 0, 1, 2:
		if slot := w.slot(kind); slot >= 0 {
			w.put(api.ILoad, slot)
			return
		}
	case 3, 4:
		if k := slices.Index(w.head.caps, kind); k >= 0 {
			w.put(api.ICap, k)
			return
		}
	case 5:
		w.values(api.VChan)
		at := w.put(api.IWait, 0)
		w.code[at].List = []int{0, len(w.code)}
		return
	case 6:
		if w.called(kind, api.ICall) {
			return
		}
	case 7:
		many := 1 + w.IntN(3)
		w.values(slices.Repeat([]int{kind}, many)...)
		w.put(api.IArray, many)
		w.values(api.VInt)
		w.put(api.IIndex, 0)
		return
	case 8:
		w.values(w.someKind(), kind)
		w.put(api.ITuple, 2)
		w.put(api.IField, 1)
		return
	}
	w.made(kind)
}

// plain lays a value of a kind at once.
func (w *writer) plain(kind int) {
	w.put(api.IZero, slices.Index([]int{api.KInt, api.KBool, api.KArray, api.KTuple, api.KChan, api.KProg}, kind))
}

// called calls a prog whose result is of a kind (0: which has none); false: there is none.
func (w *writer) called(result, op int) bool {
	for _, n := range w.Perm(len(w.heads)) {
		to := w.heads[n]
		if op == api.ICall && to.result != result {
			continue
		}
		if w.IntN(8) == 0 && w.slot(api.VProg) >= 0 {
			w.put(api.ILoad, w.slot(api.VProg))
		} else {
			w.values(to.caps...)
			w.code[w.put(api.IProg, n)].B = to.Caps
		}
		w.height++
		w.values(to.params...)
		w.height--
		at := w.put(op, len(to.params))
		if op == api.ICall && to.Res {
			w.code[at].B = 1
		}
		return true
	}
	return false
}

// made lays a value of a kind that is made of others.
func (w *writer) made(kind int) {
	switch kind {
	case api.VInt:
		w.number()
	case api.VBool:
		w.truth()
	case api.VArray:
		w.array()
	case api.VTuple:
		if w.IntN(3) == 0 {
			w.put(api.IZero, pick(w.maker, 3, 6))
			return
		}
		many := 2 + w.IntN(2)
		w.values(w.kinds(many)...)
		w.put(api.ITuple, many)
	case api.VChan:
		w.put(pick(w.maker, api.IMake, api.IMake, api.IMake, api.IZero), 0)
		if last := &w.code[len(w.code)-1]; last.Op == api.IZero {
			last.A = 4
		}
	case api.VProg:
		switch n := w.IntN(len(w.heads)); w.IntN(5) {
		case 0:
			w.put(api.ISelf, 0)
		case 1:
			w.put(api.IZero, pick(w.maker, 5, 7))
		default:
			w.values(w.heads[n].caps...)
			w.code[w.put(api.IProg, n)].B = w.heads[n].Caps
		}
	}
}

func (w *writer) number() {
	switch w.IntN(8) {
	case 0:
		w.values(api.VArray)
		w.put(api.ILen, 0)
	case 1:
		w.values(api.VInt)
		w.put(api.IUnary, api.OpNeg)
	case 2, 3:
		w.values(api.VInt, api.VInt)
		w.put(api.IBin, pick(w.maker, api.OpAdd, api.OpSub, api.OpMul, api.OpAdd, api.OpSub, api.OpMul, api.OpDiv, api.OpMod))
	case 4:
		w.put(api.IInt, pick(w.maker, math.MinInt, -2, -1, 2, 3, 1<<40, math.MaxInt))
	default:
		w.put(api.IInt, w.IntN(2))
	}
}

func (w *writer) truth() {
	switch w.IntN(6) {
	case 0:
		w.values(api.VBool)
		w.put(api.IUnary, api.OpNot)
	case 1:
		w.values(api.VInt, api.VInt)
		w.put(api.IBin, pick(w.maker, api.OpLt, api.OpLe, api.OpGt, api.OpGe))
	case 2:
		kind := pick(w.maker, api.VInt, api.VBool, api.VChan)
		w.values(kind, kind)
		w.put(api.IBin, pick(w.maker, api.OpEq, api.OpNe))
	case 3:
		w.both()
	default:
		w.put(api.IBool, w.IntN(2))
	}
}

// both is what && and || come to.
func (w *writer) both() {
	w.expression(api.VBool)
	to := w.put(api.IFalse, 0)
	w.expression(api.VBool)
	over := w.put(api.IJump, 0)
	w.here(to)
	w.put(api.IBool, 0)
	w.here(over)
}

func (w *writer) array() {
	switch w.IntN(4) {
	case 0:
		w.put(api.IZero, 2)
	case 1, 2:
		w.put(api.IInt, w.IntN(12)-1)
		w.height++
		w.expression(w.someKind())
		w.height--
		w.put(api.IFill, 0)
	default:
		many := w.IntN(4)
		w.values(slices.Repeat([]int{w.someKind()}, many)...)
		w.put(api.IArray, many)
	}
}

func (w *writer) statement() {
	if w.left--; w.left < 0 {
		return
	}
	switch w.IntN(14) {
	case 0, 1, 2, 3:
		w.store()
	case 4, 5:
		w.part()
	case 6:
		w.expression(w.someKind())
		w.height++
		w.statement()
		w.height--
		w.put(api.IPop, 0)
	case 7:
		w.called(0, pick(w.maker, api.ICall, api.IBegin))
	case 8, 9:
		w.either()
	case 10:
		w.loop()
	case 11:
		w.choice()
	case 12:
		w.around()
	case 13:
		w.stop()
	}
}

func (w *writer) store() {
	if slot := w.slot(pick(w.maker, -1, -1, 0)); slot >= 0 {
		kind := w.someKind()
		w.expression(kind)
		w.put(api.IStore, slot)
		w.has[slot] = kind
	}
}

func (w *writer) part() {
	kind := pick(w.maker, api.VTuple, api.VArray)
	slot := w.slot(kind)
	if slot < 0 {
		if slot = w.slot(0); slot < 0 {
			return
		}
		w.made(kind)
		w.put(api.IStore, slot)
		w.has[slot] = kind
	}
	list := []int{w.IntN(2)}
	if kind == api.VArray {
		list[0] = -1
	}
	for w.IntN(3) == 0 {
		list = append(list, w.IntN(3)-1)
	}
	var kinds []int
	for _, step := range list {
		if step == -1 {
			kinds = append(kinds, api.VInt)
		}
	}
	w.values(append(kinds, w.someKind())...)
	w.code[w.put(api.IPart, slot)].List = list
}

// block is a few statements behind which just those slots have a value that had one ahead.
func (w *writer) block() {
	ahead := slices.Clone(w.has)
	for range w.IntN(3) {
		w.statement()
	}
	if slot := w.slot(0); slot >= 0 && w.IntN(4) == 0 {
		w.put(api.IClear, slot)
		w.has[slot] = 0
	}
	for slot, had := range ahead {
		if had != 0 && w.has[slot] == 0 {
			w.plain(had)
			w.put(api.IStore, slot)
		}
		if had == 0 && w.has[slot] != 0 {
			w.put(api.IClear, slot)
		}
	}
	copy(w.has, ahead)
}

// nothing is what may stand where ways meet.
func (w *writer) nothing() {
	w.put(api.IInt, 0)
	w.put(api.IPop, 0)
}

func (w *writer) either() {
	w.expression(api.VBool)
	to := w.put(api.IFalse, 0)
	w.block()
	if w.IntN(2) == 0 {
		over := w.put(api.IJump, 0)
		w.here(to)
		w.block()
		to = over
	}
	w.here(to)
	w.nothing()
}

func (w *writer) loop() {
	top := len(w.code)
	w.expression(api.VBool)
	to := w.put(api.IFalse, 0)
	w.block()
	w.put(api.IBack, top)
	w.here(to)
	w.nothing()
}

// choice is a wait with some arms, each with a block.
func (w *writer) choice() {
	var list, kinds []int
	for range w.IntN(4) {
		way := w.IntN(2)
		list, kinds = append(list, way, 0), append(kinds, api.VChan)
		if way == 1 {
			kinds = append(kinds, w.someKind())
		}
	}
	w.values(kinds...)
	w.code[w.put(api.IWait, 0)].List = list
	var over []int
	for arm := 0; arm < len(list); arm += 2 {
		list[arm+1] = len(w.code)
		if list[arm] == 0 {
			w.put(api.IPop, 0)
		}
		w.block()
		over = append(over, w.put(api.IJump, 0))
	}
	for _, one := range over {
		w.here(one)
	}
	w.nothing()
}

// around goes over a block, and then back into it.
func (w *writer) around() {
	first := w.put(api.IJump, 0)
	w.block()
	out := w.put(api.IJump, 0)
	w.here(first)
	w.put(api.IBack, first+1)
	w.here(out)
	w.nothing()
}

// stop ends the way, if it may; what is written behind is never come to, if no other way leads there.
func (w *writer) stop() {
	if w.IntN(3) == 0 {
		w.put(api.IWait, 0)
	} else if w.height == 0 {
		w.ret()
	}
}

// value is of a kind, 0: of any, and odd ones too.
func (m maker) value(kind, deep int) api.Value {
	if kind == 0 {
		if kind = m.IntN(8); kind == 0 || kind == 7 {
			return api.Value{Kind: pick(m, 0, 7, -1, 1, 2, 5, 6), Num: m.IntN(5) - 1, List: m.list(deep-1, m.IntN(2))}
		}
	}
	switch kind {
	case api.VInt:
		return number(pick(m, 0, 0, 1, 1, 2, -1, math.MinInt, math.MaxInt))
	case api.VBool:
		return truth(m.IntN(2) == 0)
	case api.VChan:
		return channel(m.IntN(9))
	case api.VArray:
		return array(m.list(deep, m.IntN(3))...)
	case api.VTuple:
		return tuple(m.list(deep, 2+m.IntN(2))...)
	}
	return prog(m.IntN(4), m.list(deep, m.IntN(3))...)
}

func (m maker) list(deep, many int) []api.Value {
	if deep <= 0 {
		return nil
	}
	var out []api.Value
	for range many {
		out = append(out, m.value(0, deep-1))
	}
	return out
}
