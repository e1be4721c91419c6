package machine_test

import (
	"slices"

	"squint/api"
	"squint/kinds"
)

// reading reads chapter 11 a second time: whatever is laid, popped, kept or told is copied, and all is counted afresh. It panics where a slot, a captured value, an instruction or a value on the stack is not there.
type reading struct {
	u       api.Unit
	calls   []frame
	pause   api.Pause
	goes    bool
	used    int
	cells   int
	depth   int
	targets []int             // of the arms with which it waits
	done    *[api.Ops + 1]int // how often each operation was done, by all of a kin
}

// frame is a call; a slot that has no value has a kind that no value has.
type frame struct {
	fn           api.Value
	slots, stack []api.Value
	at           int
}

const noValue = 4711

func readNew(u api.Unit) *reading {
	x := &reading{u: copyUnit(u), goes: true, done: &[api.Ops + 1]int{}}
	x.enter(prog(1, channel(api.In), channel(api.Out)), nil)
	return x
}

func copyOf(v api.Value) api.Value {
	v.List = copyAll(v.List)
	return v
}

func copyAll(list []api.Value) []api.Value {
	var out []api.Value
	for _, one := range list {
		out = append(out, copyOf(one))
	}
	return out
}

func copyUnit(u api.Unit) api.Unit {
	u.Types, u.Progs = slices.Clone(u.Types), slices.Clone(u.Progs)
	for n := range u.Types {
		u.Types[n].Kids = slices.Clone(u.Types[n].Kids)
	}
	for n := range u.Progs {
		u.Progs[n].Code = slices.Clone(u.Progs[n].Code)
		for at := range u.Progs[n].Code {
			u.Progs[n].Code[at].List = slices.Clone(u.Progs[n].Code[at].List)
		}
	}
	return u
}

func copyPause(p api.Pause) api.Pause {
	p.Fn, p.Args, p.Arms = copyOf(p.Fn), copyAll(p.Args), slices.Clone(p.Arms)
	for k := range p.Arms {
		p.Arms[k].Value = copyOf(p.Arms[k].Value)
	}
	return p
}

func (x *reading) Clone() *reading {
	y := *x
	y.calls, y.pause = nil, copyPause(x.pause)
	for _, f := range x.calls {
		y.calls = append(y.calls, frame{copyOf(f.fn), copyAll(f.slots), copyAll(f.stack), f.at})
	}
	return &y
}

func (x *reading) enter(fn api.Value, args []api.Value) {
	f := frame{fn: copyOf(fn), slots: copyAll(args)}
	for len(f.slots) < x.u.Progs[fn.Num-1].Slots {
		f.slots = append(f.slots, api.Value{Kind: noValue})
	}
	x.calls = append(x.calls, f)
}

// unfit is 0, or the trap of a value that is called with so many arguments.
func (x *reading) unfit(fn api.Value, args int) int {
	isProg := fn.Kind == api.VProg
	if isProg && fn.Num == 0 {
		return api.TrapNil
	}
	for n, p := range x.u.Progs {
		if isProg && fn.Num == n+1 && len(fn.List) == p.Caps && p.Params == args {
			return 0
		}
	}
	return api.TrapWrong
}

func (x *reading) Child(fn api.Value, args []api.Value) *reading {
	y := &reading{u: x.u, goes: true, done: x.done}
	if why := x.unfit(fn, len(args)); why != 0 {
		y.goes, y.pause = false, api.Pause{Kind: api.PTrap, Code: why}
		return y
	}
	y.enter(fn, args)
	return y
}

func (x *reading) Give(v api.Value) {
	if x.pause.Kind == api.PMake && !x.goes {
		x.push(v)
		x.goes = true
	}
}

func (x *reading) Fire(arm int, v api.Value) {
	if x.pause.Kind != api.PWait || x.goes {
		return
	}
	for k, one := range x.pause.Arms {
		if k != arm {
			continue
		}
		x.top().at = x.targets[k]
		if !one.Send {
			x.push(v)
		}
		x.goes, x.pause.Arms = true, nil
	}
}

func (x *reading) Held() []int {
	is := map[int]bool{}
	for _, f := range x.calls {
		for _, list := range [][]api.Value{f.slots, f.stack, f.fn.List} {
			readChans(list, is)
		}
	}
	if x.pause.Kind == api.PWait {
		for _, arm := range x.pause.Arms {
			readChans([]api.Value{channel(arm.Chan), arm.Value}, is)
		}
	}
	var out []int
	for c := range is {
		out = append(out, c)
	}
	slices.Sort(out)
	return out
}

func readChans(list []api.Value, is map[int]bool) {
	for _, v := range list {
		if v.Kind == api.VChan && v.Num > 0 {
			is[v.Num] = true
		}
		readChans(v.List, is)
	}
}

func (x *reading) top() *frame { return &x.calls[len(x.calls)-1] }

func (x *reading) push(v api.Value) {
	f := x.top()
	f.stack = append(f.stack, copyOf(v))
}

func (x *reading) pop() api.Value {
	f := x.top()
	v := f.stack[len(f.stack)-1]
	f.stack = f.stack[:len(f.stack)-1]
	return v
}

// popMany pops values; the one laid first is the first one.
func (x *reading) popMany(n int) []api.Value {
	var out []api.Value
	for range n {
		out = append(out, x.pop())
	}
	slices.Reverse(out)
	return out
}

// ends is thrown where an instruction comes to a pause.
type ends api.Pause

func readTrap(why int) { panic(ends{Kind: api.PTrap, Code: why}) }

func want(is bool) {
	if !is {
		readTrap(api.TrapWrong)
	}
}

func cellsOf(v api.Value) int {
	cells := 1
	for _, one := range v.List {
		cells += cellsOf(one)
	}
	return cells
}

// use counts cells as used, if they are left.
func (x *reading) use(cells int) {
	if cells > x.cells-x.used {
		panic(ends{Kind: api.PSpent, Code: api.SpentCells})
	}
	x.used += cells
}

func (x *reading) pushMade(v api.Value) {
	x.use(cellsOf(v))
	x.push(v)
}

func (x *reading) Run(cells, depth int) api.Pause {
	if !x.goes {
		x.pause.Cells = 0
		return copyPause(x.pause)
	}
	x.used, x.cells, x.depth, x.goes = 0, cells, depth, false
	x.pause = x.goOn()
	x.pause.Cells = x.used
	switch x.pause.Kind {
	case api.PTick, api.PBorn:
		x.goes = true
	case api.PExit, api.PTrap, api.PSpent:
		x.calls = nil
	}
	return copyPause(x.pause)
}

func (x *reading) goOn() (out api.Pause) {
	defer func() {
		if p := recover(); p != nil {
			out = api.Pause(p.(ends))
		}
	}()
	for {
		f := x.top()
		i := x.u.Progs[f.fn.Num-1].Code[f.at]
		f.at++
		x.done[i.Op]++
		x.do(f, i)
	}
}

func (x *reading) do(f *frame, i api.Ins) {
	switch i.Op {
	case api.IInt:
		x.push(number(i.A))
	case api.IBool:
		x.push(truth(i.A == 1))
	case api.ILoad:
		if f.slots[i.A].Kind == noValue {
			panic("a slot that has no value")
		}
		x.push(f.slots[i.A])
	case api.IStore:
		f.slots[i.A] = x.pop()
	case api.IClear:
		f.slots[i.A] = api.Value{Kind: noValue}
	case api.ICap:
		x.push(f.fn.List[i.A])
	case api.ISelf:
		x.push(f.fn)
	case api.IPop:
		x.pop()
	case api.IJump:
		f.at = i.A
	case api.IFalse:
		v := x.pop()
		want(v.Kind == api.VBool)
		if v.Num == 0 {
			f.at = i.A
		}
	case api.IBack:
		f.at = i.A
		panic(ends{Kind: api.PTick})
	case api.IMake:
		panic(ends{Kind: api.PMake})
	case api.IRet:
		x.leave(f)
	case api.ICall, api.IBegin:
		x.call(i)
	case api.IWait:
		x.wait(i)
	default:
		x.reckon(f, i)
	}
}

// reckon does the instructions that make values of values.
func (x *reading) reckon(f *frame, i api.Ins) {
	switch i.Op {
	case api.IZero:
		x.zero(i.A)
	case api.ITuple:
		x.pushMade(tuple(x.popMany(i.A)...))
	case api.IArray:
		x.pushMade(array(x.popMany(i.A)...))
	case api.IProg:
		x.pushMade(prog(i.A+1, x.popMany(i.B)...))
	case api.IFill:
		x.fill(x.pop(), x.pop())
	case api.ILen:
		v := x.pop()
		want(v.Kind == api.VArray)
		x.push(number(len(v.List)))
	case api.IIndex:
		n, v := x.pop(), x.pop()
		want(n.Kind == api.VInt && v.Kind == api.VArray)
		if n.Num < 0 || n.Num >= len(v.List) {
			readTrap(api.TrapIndex)
		}
		x.push(v.List[n.Num])
	case api.IField:
		v := x.pop()
		want(v.Kind == api.VTuple && i.A < len(v.List))
		x.push(v.List[i.A])
	case api.IPart:
		x.part(f, i)
	case api.IUnary:
		v := x.pop()
		want(v.Kind == api.VInt && i.A == api.OpNeg || v.Kind == api.VBool && i.A == api.OpNot)
		if i.A == api.OpNeg {
			x.push(number(-v.Num))
		} else {
			x.push(truth(v.Num == 0))
		}
	case api.IBin:
		right, left := x.pop(), x.pop()
		x.push(readBin(i.A, left, right))
	default:
		panic("no operation")
	}
}

// zero counts a default value's cells ahead of making it: it may have more than there are.
func (x *reading) zero(row int) {
	left := x.cells - x.used
	var make func(row int) api.Value
	make = func(row int) api.Value {
		if left < 1 {
			panic(ends{Kind: api.PSpent, Code: api.SpentCells})
		}
		left--
		t := x.u.Types[row]
		v := api.Value{Kind: map[int]int{api.KInt: api.VInt, api.KBool: api.VBool, api.KArray: api.VArray, api.KTuple: api.VTuple, api.KChan: api.VChan, api.KProg: api.VProg}[t.Kind]}
		if t.Kind == api.KTuple {
			for _, kid := range t.Kids {
				v.List = append(v.List, make(kid))
			}
		}
		return v
	}
	if !kinds.Valid(x.u.Types) {
		panic("types")
	}
	x.pushMade(make(row))
}

func (x *reading) fill(v, n api.Value) {
	want(n.Kind == api.VInt)
	if n.Num < 0 {
		readTrap(api.TrapFill)
	}
	out := array()
	for cells := 1; n.Num > 0; n.Num-- {
		if cells += cellsOf(v); cells > x.cells-x.used {
			panic(ends{Kind: api.PSpent, Code: api.SpentCells})
		}
		out.List = append(out.List, v)
	}
	x.pushMade(out)
}

func readBin(op int, a, b api.Value) api.Value {
	if op == api.OpEq || op == api.OpNe {
		want(a.Kind == b.Kind && (a.Kind == api.VInt || a.Kind == api.VBool || a.Kind == api.VChan))
		return truth((a.Num == b.Num) == (op == api.OpEq))
	}
	want(a.Kind == api.VInt && b.Kind == api.VInt)
	if (op == api.OpDiv || op == api.OpMod) && b.Num == 0 {
		readTrap(api.TrapDivide)
	}
	switch op {
	case api.OpLt:
		return truth(a.Num < b.Num)
	case api.OpLe:
		return truth(a.Num <= b.Num)
	case api.OpGt:
		return truth(a.Num > b.Num)
	case api.OpGe:
		return truth(a.Num >= b.Num)
	case api.OpAdd:
		return number(a.Num + b.Num)
	case api.OpSub:
		return number(a.Num - b.Num)
	case api.OpMul:
		return number(a.Num * b.Num)
	case api.OpDiv:
		return number(a.Num / b.Num)
	case api.OpMod:
		return number(a.Num % b.Num)
	}
	panic("no operator")
}

func (x *reading) part(f *frame, i api.Ins) {
	v := x.pop()
	var indices []api.Value
	for _, n := range i.List {
		if n == -1 {
			indices = append(indices, x.pop())
		}
	}
	slices.Reverse(indices)
	whole := copyOf(f.slots[i.A])
	place := &whole
	for _, n := range i.List {
		if n == -1 {
			want(place.Kind == api.VArray && indices[0].Kind == api.VInt)
			if n = indices[0].Num; n < 0 || n >= len(place.List) {
				readTrap(api.TrapIndex)
			}
			indices = indices[1:]
		} else {
			want(place.Kind == api.VTuple && n < len(place.List))
		}
		place = &place.List[n]
	}
	*place = v
	x.use(cellsOf(whole))
	f.slots[i.A] = whole
}

func (x *reading) call(i api.Ins) {
	args := x.popMany(i.A)
	fn := x.pop()
	if why := x.unfit(fn, len(args)); why != 0 {
		readTrap(why)
	}
	if i.Op == api.IBegin {
		panic(ends{Kind: api.PBorn, Fn: fn, Args: args})
	}
	want(x.u.Progs[fn.Num-1].Res == (i.B == 1))
	if len(x.calls)+1 > x.depth {
		panic(ends{Kind: api.PSpent, Code: api.SpentDepth})
	}
	x.enter(fn, args)
	panic(ends{Kind: api.PTick})
}

func (x *reading) leave(f *frame) {
	res := x.u.Progs[f.fn.Num-1].Res
	if many := len(f.stack); res && many != 1 || !res && many != 0 {
		panic("a stack at the end of a call")
	}
	result := slices.Clone(f.stack)
	x.calls = x.calls[:len(x.calls)-1]
	if len(x.calls) == 0 {
		panic(ends{Kind: api.PExit})
	}
	for _, v := range result {
		x.push(v)
	}
}

func (x *reading) wait(i api.Ins) {
	var arms []api.Arm
	x.targets = nil
	for k := len(i.List) - 2; k >= 0; k -= 2 {
		one := api.Arm{Send: i.List[k] == 1}
		if one.Send {
			one.Value = x.pop()
		}
		on := x.pop()
		want(on.Kind == api.VChan)
		one.Chan = on.Num
		arms, x.targets = append(arms, one), append(x.targets, i.List[k+1])
	}
	slices.Reverse(arms)
	slices.Reverse(x.targets)
	panic(ends{Kind: api.PWait, Arms: arms})
}
