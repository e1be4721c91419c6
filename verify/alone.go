package verify

import "squint/api"

// want is what a number or a List of an instruction must be.
type want int

const (
	wantNone   want = iota // 0, or empty: the operation has it not
	wantAny                // any number
	wantBit                // 0 or 1
	wantMany               // 0 or more
	wantParts              // 2 or more
	wantRow                // a row that has a default value
	wantUnary              // an operator
	wantBinary             // an operator
	wantProg               // a prog's number
	wantCaps               // the Caps of the prog A
	wantPath               // a path of parts and indices
	wantArms               // arms

	// These make other errors than the ones above, and are asked behind them.
	wantSlot    // a slot
	wantCapture // one of the captured values
	wantAhead   // a target further on
	wantBack    // a target not further on
)

// shape is what an operation wants of its instructions.
type shape struct{ a, b, list want }

var shapes = [api.Ops + 1]shape{
	api.IInt:   {a: wantAny},
	api.IBool:  {a: wantBit},
	api.IZero:  {a: wantRow},
	api.ILoad:  {a: wantSlot},
	api.IStore: {a: wantSlot},
	api.IClear: {a: wantSlot},
	api.ICap:   {a: wantCapture},
	api.ITuple: {a: wantParts},
	api.IArray: {a: wantMany},
	api.IField: {a: wantMany},
	api.IPart:  {a: wantSlot, list: wantPath},
	api.IUnary: {a: wantUnary},
	api.IBin:   {a: wantBinary},
	api.IJump:  {a: wantAhead},
	api.IFalse: {a: wantAhead},
	api.IBack:  {a: wantBack},
	api.IProg:  {a: wantProg, b: wantCaps},
	api.ICall:  {a: wantMany, b: wantBit},
	api.IBegin: {a: wantMany},
	api.IWait:  {list: wantArms},
}

// wrongAlone tells the first instruction that is wrong on its own.
func wrongAlone(u api.Unit) (int, int, api.Errno) {
	j := &judge{progs: u.Progs, defaults: defaults(u.Types)}
	for n, p := range u.Progs {
		j.prog = p
		for at, i := range p.Code {
			if why := j.wrong(at, i); why != api.OK {
				return n, at, why
			}
		}
	}
	return 0, 0, api.OK
}

// judge holds a prog's instructions, one by one, against what their operations want.
type judge struct {
	progs    []api.Prog
	defaults []bool
	prog     api.Prog
}

func (j *judge) wrong(at int, i api.Ins) api.Errno {
	if i.Op < 1 || i.Op > api.Ops {
		return api.ErrVerifyOp
	}
	s := shapes[i.Op]
	switch {
	case !j.isFormed(s, i):
		return api.ErrVerifyOp
	case !j.hasSlot(s.a, i.A):
		return api.ErrVerifySlot
	case !j.hasTargets(s, at, i):
		return api.ErrVerifyJump
	}
	return api.OK
}

func (j *judge) isFormed(s shape, i api.Ins) bool {
	if !j.fits(s.a, i.A) || !fitsList(s.list, i.List) {
		return false
	}
	if s.b == wantCaps {
		return i.B == j.progs[i.A].Caps
	}
	return j.fits(s.b, i.B)
}

func (j *judge) fits(w want, n int) bool {
	switch w {
	case wantNone:
		return n == 0
	case wantBit:
		return within(n, 1)
	case wantMany:
		return n >= 0
	case wantParts:
		return n >= 2
	case wantRow:
		return within(n, len(j.defaults)-1) && j.defaults[n]
	case wantUnary:
		return n == api.OpNeg || n == api.OpNot
	case wantBinary:
		return isBinary(n)
	case wantProg:
		return within(n, len(j.progs)-1)
	}
	return true
}

func isBinary(operator int) bool {
	switch operator {
	case api.OpEq, api.OpNe, api.OpLt, api.OpLe, api.OpGt, api.OpGe, api.OpAdd, api.OpSub, api.OpMul, api.OpDiv, api.OpMod:
		return true
	}
	return false
}

func fitsList(w want, list []int) bool {
	switch w {
	case wantPath:
		return isPath(list)
	case wantArms:
		return areArms(list)
	}
	return len(list) == 0
}

func isPath(list []int) bool {
	for _, step := range list {
		if step < -1 {
			return false
		}
	}
	return len(list) > 0
}

func areArms(list []int) bool {
	for at := 0; at < len(list); at += 2 {
		if !within(list[at], 1) {
			return false
		}
	}
	return len(list)%2 == 0
}

func (j *judge) hasSlot(w want, n int) bool {
	switch w {
	case wantSlot:
		return within(n, j.prog.Slots-1)
	case wantCapture:
		return within(n, j.prog.Caps-1)
	}
	return true
}

func (j *judge) hasTargets(s shape, at int, i api.Ins) bool {
	switch {
	case s.a == wantAhead:
		return j.isAhead(at, i.A)
	case s.a == wantBack:
		return within(i.A, at)
	case s.list == wantArms:
		return j.haveTargets(at, i.List)
	}
	return true
}

func (j *judge) haveTargets(at int, arms []int) bool {
	for n := 1; n < len(arms); n += 2 {
		if !j.isAhead(at, arms[n]) {
			return false
		}
	}
	return true
}

func (j *judge) isAhead(at, target int) bool { return target > at && target < len(j.prog.Code) }
