package value

import "squint/api"

// Bin is what an operator makes of two values; or the trap.
func Bin(op int, a, b api.Value) (api.Value, int) {
	if a.Kind != b.Kind {
		return trap(api.TrapWrong)
	}
	switch a.Kind {
	case api.VInt:
		return ofNumbers(op, a.Num, b.Num)
	case api.VBool, api.VChan:
		return ofAlike(op, a.Num, b.Num)
	}
	return trap(api.TrapWrong)
}

func ofNumbers(op, a, b int) (api.Value, int) {
	switch op {
	case api.OpAdd:
		return number(a + b)
	case api.OpSub:
		return number(a - b)
	case api.OpMul:
		return number(a * b)
	case api.OpDiv, api.OpMod:
		return divided(op, a, b)
	case api.OpLt:
		return truth(a < b)
	case api.OpLe:
		return truth(a <= b)
	case api.OpGt:
		return truth(a > b)
	case api.OpGe:
		return truth(a >= b)
	}
	return ofAlike(op, a, b)
}

func divided(op, a, b int) (api.Value, int) {
	if b == 0 {
		return trap(api.TrapDivide)
	}
	if op == api.OpDiv {
		return number(a / b)
	}
	return number(a % b)
}

// ofAlike knows the operators of all that can be held against each other.
func ofAlike(op, a, b int) (api.Value, int) {
	switch op {
	case api.OpEq:
		return truth(a == b)
	case api.OpNe:
		return truth(a != b)
	}
	return trap(api.TrapWrong)
}

// Unary likewise, of one.
func Unary(op int, a api.Value) (api.Value, int) {
	switch {
	case op == api.OpNeg && a.Kind == api.VInt:
		return number(-a.Num)
	case op == api.OpNot && a.Kind == api.VBool:
		return truth(a.Num == 0)
	}
	return trap(api.TrapWrong)
}

func number(n int) (api.Value, int) { return api.Value{Kind: api.VInt, Num: n}, 0 }

func truth(is bool) (api.Value, int) {
	if is {
		return api.Value{Kind: api.VBool, Num: 1}, 0
	}
	return api.Value{Kind: api.VBool}, 0
}

func trap(code int) (api.Value, int) { return api.Value{}, code }
