package walk

import (
	"squint/api"
	"squint/kept"
	"squint/value"
)

// constant is an EInt or an EBool.
type constant struct{ kept.Value }

func (d constant) goOn(x *Walker, _ int) { x.end(d.Value) }

// reference is an EName, or what a prog captures: it knows where its value stands.
type reference interface {
	doer
	value(x *Walker) kept.Value
}

// own is a name that is declared in the prog in which it stands.
type own struct{ slot int }

func (d own) value(x *Walker) kept.Value { return x.running().names[d.slot] }

func (d own) goOn(x *Walker, _ int) { x.end(d.value(x)) }

// captured is one that is declared outside.
type captured struct{ k int }

func (d captured) value(x *Walker) kept.Value { return x.running().fn.At(d.k) }

func (d captured) goOn(x *Walker, _ int) { x.end(d.value(x)) }

// itself is the prog's own name.
type itself struct{}

func (d itself) value(x *Walker) kept.Value { return x.running().fn }

func (d itself) goOn(x *Walker, _ int) { x.end(d.value(x)) }

// paren is an EParen.
type paren struct{ kid doer }

func (d paren) goOn(x *Walker, _ int) { x.become(d.kid) }

// listing is an ETuple or an EArray.
type listing struct {
	kids
	kind int
}

func (d listing) goOn(x *Walker, times int) {
	if !d.next(x, times) {
		x.made(kept.Make(d.kind, 0, x.got(), x.left))
	}
}

// filling is an EFill: how many, and the element.
type filling struct{ kids }

func (d filling) goOn(x *Walker, times int) {
	if d.next(x, times) || !x.ofKinds(api.VInt) {
		return
	}
	many, one := x.got()[0].Num, x.got()[1]
	if many < 0 {
		x.trap(api.TrapFill)
		return
	}
	x.made(kept.Fill(many, one, x.left))
}

// length is an ELen.
type length struct{ kids }

func (d length) goOn(x *Walker, times int) {
	if !d.next(x, times) && x.ofKinds(api.VArray) {
		x.end(kept.Int(x.got()[0].Many()))
	}
}

// making is an EMake.
type making struct{}

func (making) goOn(x *Walker, times int) {
	if times == 0 {
		x.stop(pause{kind: api.PMake})
		return
	}
	x.end(x.got()[0])
}

// closing is an EProg, where its value is made.
type closing struct {
	num   int
	takes []reference
}

func (d closing) goOn(x *Walker, _ int) {
	var list []kept.Value
	for _, one := range d.takes {
		list = append(list, one.value(x))
	}
	x.made(kept.Make(api.VProg, d.num, list, x.left))
}

// unary is an EUnary that does not receive.
type unary struct {
	kids
	op int
}

func (d unary) goOn(x *Walker, times int) {
	if !d.next(x, times) {
		x.reckoned(value.Unary(d.op, x.got()[0].Head()))
	}
}

// receiving is one that does.
type receiving struct{ kids }

func (d receiving) goOn(x *Walker, times int) {
	switch {
	case d.next(x, times):
	case times == 1:
		x.wait(false)
	default:
		x.end(x.got()[0])
	}
}

// binary is an EBin of which both sides are always worked out.
type binary struct {
	kids
	op int
}

func (d binary) goOn(x *Walker, times int) {
	if !d.next(x, times) {
		x.reckoned(value.Bin(d.op, x.got()[0].Head(), x.got()[1].Head()))
	}
}

// reckoned ends with what an operator answers.
func (x *Walker) reckoned(v api.Value, why int) {
	if why != 0 {
		x.trap(why)
		return
	}
	x.end(kept.Keep(v))
}

// deciding is an EBin with OpAnd or OpOr: the left side may be enough.
type deciding struct {
	left, right doer
	enough      int // the bool that is
}

func (d deciding) goOn(x *Walker, times int) {
	if times == 0 {
		x.open(d.left)
		return
	}
	if !x.ofKinds(api.VBool) {
		return
	}
	if truth(x.got()[0]) == (d.enough == 1) {
		x.end(kept.Bool(d.enough))
		return
	}
	x.become(d.right)
}

func truth(v kept.Value) bool { return v.Num != 0 }

// indexing is an EIndex.
type indexing struct{ kids }

func (d indexing) goOn(x *Walker, times int) {
	if d.next(x, times) || !x.ofKinds(api.VArray, api.VInt) {
		return
	}
	list, k := x.got()[0], x.got()[1].Num
	if k < 0 || k >= list.Many() {
		x.trap(api.TrapIndex)
		return
	}
	x.end(list.At(k))
}

// part is an EField.
type part struct {
	kids
	k int
}

func (d part) goOn(x *Walker, times int) {
	if d.next(x, times) || !x.ofKinds(api.VTuple) {
		return
	}
	of := x.got()[0]
	if d.k >= of.Many() {
		x.trap(api.TrapWrong)
		return
	}
	x.end(of.At(d.k))
}
