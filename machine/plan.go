package machine

import (
	"slices"

	"squint/api"
	"squint/kept"
)

// plan is what all machines of a unit share; nobody ever changes it.
type plan struct {
	progs []api.Prog
	zeros []kept.Value // the types' default values
	rows  [api.Ops + 1]row
}

// newPlan copies a unit, since whoever handed it in may write into it later.
func newPlan(u api.Unit) *plan {
	p := &plan{progs: slices.Clone(u.Progs), zeros: kept.Zeros(u.Types), rows: rows()}
	for k, one := range p.progs {
		own := slices.Clone(one.Code)
		for at, i := range own {
			own[at].List = slices.Clone(i.List)
		}
		p.progs[k].Code = own
	}
	return p
}

// unfit is the trap of what does not fit so many arguments, if it is called; 0, if it fits.
func (p *plan) unfit(fn kept.Value, args int) int {
	if fn.Kind != api.VProg {
		return api.TrapWrong
	}
	if fn.Num == 0 {
		return api.TrapNil
	}
	if fn.Num < 0 || fn.Num > len(p.progs) {
		return api.TrapWrong
	}
	if of := p.progs[fn.Num-1]; fn.Many() != of.Caps || args != of.Params {
		return api.TrapWrong
	}
	return 0
}

// row is what an instruction of one operation does.
type row struct {
	wants []int // the kinds of the values that it pops, the one laid first first; VNone, and what is not told: any
	do    func(x *Machine, i api.Ins, got []kept.Value)
}

// rows is the table of the operations. What an instruction pops is handed to it as it was laid.
func rows() [api.Ops + 1]row {
	return [...]row{
		api.IInt:   {do: (*Machine).number},
		api.IBool:  {do: (*Machine).truth},
		api.IZero:  {do: (*Machine).zero},
		api.ILoad:  {do: (*Machine).load},
		api.IStore: {do: (*Machine).store},
		api.IClear: {do: (*Machine).empty},
		api.ICap:   {do: (*Machine).captured},
		api.ISelf:  {do: (*Machine).self},
		api.IPop:   {do: (*Machine).drop},
		api.ITuple: {do: (*Machine).tuple},
		api.IArray: {do: (*Machine).array},
		api.IFill:  {do: (*Machine).fill, wants: []int{api.VInt, api.VNone}},
		api.ILen:   {do: (*Machine).length, wants: []int{api.VArray}},
		api.IIndex: {do: (*Machine).index, wants: []int{api.VArray, api.VInt}},
		api.IField: {do: (*Machine).field, wants: []int{api.VTuple}},
		api.IPart:  {do: (*Machine).part},
		api.IUnary: {do: (*Machine).unary},
		api.IBin:   {do: (*Machine).binary},
		api.IJump:  {do: (*Machine).jump},
		api.IFalse: {do: (*Machine).branch, wants: []int{api.VBool}},
		api.IBack:  {do: (*Machine).back},
		api.IProg:  {do: (*Machine).prog},
		api.ICall:  {do: (*Machine).call},
		api.IBegin: {do: (*Machine).begin},
		api.IRet:   {do: (*Machine).ret},
		api.IMake:  {do: (*Machine).channel},
		api.IWait:  {do: (*Machine).wait},
	}
}

// ofKinds tells whether values are of the kinds that are wanted.
func ofKinds(got []kept.Value, wants []int) bool {
	for k, kind := range wants {
		if kind != api.VNone && got[k].Kind != kind {
			return false
		}
	}
	return true
}
