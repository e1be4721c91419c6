package build_test

import (
	"slices"

	"squint/api"
	"squint/value"
)

// A process, as chapters 11 and 12 both have it.
type process interface {
	Run(cells, depth int) api.Pause
	Give(v api.Value)
	Fire(arm int, v api.Value)
	Held() []int
}

// frame is a call of a unit's prog.
type frame struct {
	fn    api.Value
	slots []api.Value // VNone: it has none
	stack []api.Value
	at    int
}

// runner follows a unit as chapter 11 says. It panics where a slot, a captured value, an instruction or a value on the stack is not there.
type runner struct {
	u        api.Unit
	calls    []*frame
	pause    api.Pause
	resumes  bool // the next Run goes on
	used     int
	most     int
	deepest  int
	bad      int            // the trap of a prog that does not fit
	prog     map[[2]int]int // how often each instruction was done
	happened bool           // at PWait: an arm has
}

func newRunner(u api.Unit) *runner {
	x := &runner{u: u, resumes: true, prog: map[[2]int]int{}}
	x.enter(api.Value{Kind: api.VProg, Num: 1, List: []api.Value{channel(api.In), channel(api.Out)}}, nil)
	return x
}

func number(n int) api.Value  { return api.Value{Kind: api.VInt, Num: n} }
func channel(n int) api.Value { return api.Value{Kind: api.VChan, Num: n} }
func truth(is bool) api.Value {
	if is {
		return api.Value{Kind: api.VBool, Num: 1}
	}
	return api.Value{Kind: api.VBool}
}

func (x *runner) enter(fn api.Value, args []api.Value) {
	f := &frame{fn: fn, slots: make([]api.Value, x.u.Progs[fn.Num-1].Slots)}
	copy(f.slots, args)
	x.calls = append(x.calls, f)
}

// unfit is 0, or the trap of a value that is called and does not fit so many arguments.
func (x *runner) unfit(fn api.Value, args int) int {
	if fn.Kind == api.VProg && fn.Num == 0 {
		return api.TrapNil
	}
	if fn.Kind != api.VProg || fn.Num < 0 || fn.Num > len(x.u.Progs) || len(fn.List) != x.u.Progs[fn.Num-1].Caps || args != x.u.Progs[fn.Num-1].Params {
		return api.TrapWrong
	}
	return 0
}

func (x *runner) Child(fn api.Value, args []api.Value) process {
	y := &runner{u: x.u, resumes: true, prog: x.prog}
	if y.bad = x.unfit(fn, len(args)); y.bad == 0 {
		y.enter(fn, args)
	}
	return y
}

func (x *runner) Give(v api.Value) {
	if x.pause.Kind == api.PMake && !x.resumes {
		x.push(v)
		x.resumes = true
	}
}

func (x *runner) Fire(arm int, v api.Value) {
	if x.pause.Kind != api.PWait || x.resumes || arm < 0 || arm >= len(x.pause.Arms) {
		return
	}
	f := x.top()
	list := x.u.Progs[f.fn.Num-1].Code[f.at].List
	f.at = list[2*arm+1]
	if list[2*arm] == 0 {
		x.push(v)
	}
	x.resumes, x.happened = true, true
}

func (x *runner) Held() []int {
	var all []api.Value
	for _, f := range x.calls {
		all = append(append(append(all, f.slots...), f.stack...), f.fn.List...)
	}
	if x.pause.Kind == api.PWait && !x.happened {
		for _, arm := range x.pause.Arms {
			all = append(all, channel(arm.Chan), arm.Value)
		}
	}
	return value.Chans(api.Value{List: all})
}

func (x *runner) top() *frame { return x.calls[len(x.calls)-1] }

func (x *runner) push(v api.Value) {
	f := x.top()
	f.stack = append(f.stack, v)
}

func (x *runner) pop() api.Value {
	f := x.top()
	v := f.stack[len(f.stack)-1]
	f.stack = f.stack[:len(f.stack)-1]
	return v
}

func (x *runner) popMany(n int) []api.Value {
	out := make([]api.Value, n)
	for k := n - 1; k >= 0; k-- {
		out[k] = x.pop()
	}
	return out
}

// stop is panicked with where an instruction comes to a pause.
type stop api.Pause

func trap(code int) { panic(stop{Kind: api.PTrap, Code: code}) }

func want(is bool) {
	if !is {
		trap(api.TrapWrong)
	}
}

// make uses a value's cells.
func (x *runner) make(v api.Value) api.Value {
	size := value.Size(v, 1<<30)
	if size > x.most-x.used {
		panic(stop{Kind: api.PSpent, Code: api.SpentCells})
	}
	x.used += size
	return v
}

func (x *runner) Run(cells, depth int) api.Pause {
	x.used = 0
	if !x.resumes {
		x.pause.Cells = 0
		return x.pause
	}
	x.most, x.deepest, x.resumes, x.happened = cells, depth, false, false
	x.pause = x.goOn()
	x.pause.Cells = x.used
	switch x.pause.Kind {
	case api.PTick, api.PBorn:
		x.resumes = true
	case api.PExit, api.PTrap, api.PSpent:
		x.calls = nil
	}
	return x.pause
}

func (x *runner) goOn() (out api.Pause) {
	defer func() {
		if s := recover(); s != nil {
			out = api.Pause(s.(stop))
		}
	}()
	if x.bad != 0 {
		trap(x.bad)
	}
	for {
		f := x.top()
		n := f.fn.Num - 1
		i := x.u.Progs[n].Code[f.at]
		x.prog[[2]int{n, f.at}]++
		if i.Op != api.IWait {
			f.at++
		}
		x.do(f, i)
	}
}

func (x *runner) do(f *frame, i api.Ins) {
	switch i.Op {
	case api.IInt:
		x.push(number(i.A))
	case api.IBool:
		x.push(truth(i.A == 1))
	case api.IZero:
		v, ok := value.Zero(x.u.Types, i.A, x.most-x.used)
		if !ok {
			panic(stop{Kind: api.PSpent, Code: api.SpentCells})
		}
		x.push(x.make(v))
	case api.ILoad:
		if f.slots[i.A].Kind == api.VNone {
			panic("a slot that has no value")
		}
		x.push(f.slots[i.A])
	case api.IStore:
		f.slots[i.A] = x.pop()
	case api.IClear:
		f.slots[i.A] = api.Value{}
	case api.ICap:
		x.push(f.fn.List[i.A])
	case api.ISelf:
		x.push(f.fn)
	case api.IPop:
		x.pop()
	case api.IJump:
		f.at = i.A
	case api.IFalse:
		v := x.pop()
		want(v.Kind == api.VBool)
		if v.Num == 0 {
			f.at = i.A
		}
	case api.IBack:
		f.at = i.A
		panic(stop{Kind: api.PTick})
	case api.IMake:
		panic(stop{Kind: api.PMake})
	case api.IRet:
		x.leave(f)
	case api.IProg:
		x.push(x.make(api.Value{Kind: api.VProg, Num: i.A + 1, List: x.popMany(i.B)}))
	case api.ICall, api.IBegin:
		x.call(i)
	case api.IWait:
		x.wait(i)
	default:
		x.reckon(f, i)
	}
}

// reckon does the instructions that make values of values.
func (x *runner) reckon(f *frame, i api.Ins) {
	switch i.Op {
	case api.ITuple:
		x.push(x.make(api.Value{Kind: api.VTuple, List: x.popMany(i.A)}))
	case api.IArray:
		x.push(x.make(api.Value{Kind: api.VArray, List: x.popMany(i.A)}))
	case api.IFill:
		v, n := x.pop(), x.pop()
		want(n.Kind == api.VInt)
		if n.Num < 0 {
			trap(api.TrapFill)
		}
		if n.Num >= x.most-x.used {
			panic(stop{Kind: api.PSpent, Code: api.SpentCells})
		}
		x.push(x.make(api.Value{Kind: api.VArray, List: slices.Repeat([]api.Value{v}, n.Num)}))
	case api.ILen:
		v := x.pop()
		want(v.Kind == api.VArray)
		x.push(number(len(v.List)))
	case api.IIndex:
		n, v := x.pop(), x.pop()
		want(n.Kind == api.VInt && v.Kind == api.VArray)
		if n.Num < 0 || n.Num >= len(v.List) {
			trap(api.TrapIndex)
		}
		x.push(v.List[n.Num])
	case api.IField:
		v := x.pop()
		want(v.Kind == api.VTuple && i.A < len(v.List))
		x.push(v.List[i.A])
	case api.IPart:
		x.part(f, i)
	case api.IUnary:
		v, code := value.Unary(i.A, x.pop())
		if code != 0 {
			trap(code)
		}
		x.push(v)
	case api.IBin:
		right, left := x.pop(), x.pop()
		v, code := value.Bin(i.A, left, right)
		if code != 0 {
			trap(code)
		}
		x.push(v)
	default:
		panic("no operation")
	}
}

func (x *runner) part(f *frame, i api.Ins) {
	v := x.pop()
	path := slices.Clone(i.List)
	for k := len(path) - 1; k >= 0; k-- {
		if path[k] == -1 {
			n := x.pop()
			want(n.Kind == api.VInt)
			path[k] = n.Num
		}
	}
	at := f.slots[i.A]
	for k, n := range path {
		if i.List[k] >= 0 {
			want(at.Kind == api.VTuple && n < len(at.List))
		} else {
			want(at.Kind == api.VArray)
			if n < 0 || n >= len(at.List) {
				trap(api.TrapIndex)
			}
		}
		at = at.List[n]
	}
	whole, _ := value.With(f.slots[i.A], path, v)
	f.slots[i.A] = x.make(whole)
}

func (x *runner) call(i api.Ins) {
	args := x.popMany(i.A)
	fn := x.pop()
	if code := x.unfit(fn, len(args)); code != 0 {
		trap(code)
	}
	if i.Op == api.IBegin {
		panic(stop{Kind: api.PBorn, Fn: fn, Args: args})
	}
	want(x.u.Progs[fn.Num-1].Res == (i.B == 1))
	if len(x.calls)+1 > x.deepest {
		panic(stop{Kind: api.PSpent, Code: api.SpentDepth})
	}
	x.enter(fn, args)
	panic(stop{Kind: api.PTick})
}

func (x *runner) leave(f *frame) {
	res := x.u.Progs[f.fn.Num-1].Res
	if many := len(f.stack); res && many != 1 || !res && many != 0 {
		panic("a stack at the end of a call")
	}
	x.calls = x.calls[:len(x.calls)-1]
	if len(x.calls) == 0 {
		panic(stop{Kind: api.PExit})
	}
	if res {
		x.push(f.stack[0])
	}
}

func (x *runner) wait(i api.Ins) {
	arms := make([]api.Arm, len(i.List)/2)
	for k := len(arms) - 1; k >= 0; k-- {
		if arms[k].Send = i.List[2*k] == 1; arms[k].Send {
			arms[k].Value = x.pop()
		}
		on := x.pop()
		want(on.Kind == api.VChan)
		arms[k].Chan = on.Num
	}
	panic(stop{Kind: api.PWait, Arms: arms})
}
