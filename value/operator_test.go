package value_test

import (
	"math/big"
	"math/rand/v2"
	"testing"

	"squint/api"
	"squint/value"
)

// result is what an operator is to answer: a value, or a trap.
type result struct {
	v    api.Value
	trap int
}

func is(v api.Value) result { return result{v, 0} }

func traps(code int) result { return result{api.Value{}, code} }

func wantBin(t *testing.T, op int, a, b api.Value, want result) {
	t.Helper()
	v, trap := value.Bin(op, a, b)
	if v.Kind != want.v.Kind || v.Num != want.v.Num || len(v.List) > 0 || trap != want.trap || trap == 0 && !value.Valid(v) {
		t.Fatalf("Bin(%d, %v, %v): %v, %d, not %v", op, a, b, v, trap, want)
	}
}

func wantUnary(t *testing.T, op int, a api.Value, want result) {
	t.Helper()
	v, trap := value.Unary(op, a)
	if v.Kind != want.v.Kind || v.Num != want.v.Num || len(v.List) > 0 || trap != want.trap || trap == 0 && !value.Valid(v) {
		t.Fatalf("Unary(%d, %v): %v, %d, not %v", op, a, v, trap, want)
	}
}

// P7.7
func TestBin(t *testing.T) {
	for _, x := range []struct {
		op   int
		a, b api.Value
		want result
	}{
		{api.OpDiv, num(-7), num(2), is(num(-3))}, {api.OpMod, num(-7), num(2), is(num(-1))}, {api.OpDiv, num(least), num(-1), is(num(least))}, {api.OpMod, num(least), num(-1), is(num(0))},
		{api.OpMod, num(1), num(0), traps(api.TrapDivide)}, {api.OpAdd, num(1), channel(3), traps(api.TrapWrong)}, {api.OpEq, channel(3), channel(3), is(yes())}, {api.OpEq, array(), array(), traps(api.TrapWrong)}, {api.OpAnd, yes(), yes(), traps(api.TrapWrong)},

		{api.OpAdd, num(2), num(3), is(num(5))}, {api.OpAdd, num(greatest), num(1), is(num(least))}, {api.OpAdd, num(least), num(-1), is(num(greatest))}, {api.OpAdd, num(least), num(least), is(num(0))},
		{api.OpSub, num(2), num(3), is(num(-1))}, {api.OpSub, num(least), num(1), is(num(greatest))}, {api.OpSub, num(0), num(least), is(num(least))},
		{api.OpMul, num(-2), num(3), is(num(-6))}, {api.OpMul, num(least), num(-1), is(num(least))}, {api.OpMul, num(greatest), num(2), is(num(-2))}, {api.OpMul, num(1 << 32), num(1 << 32), is(num(0))},
		{api.OpDiv, num(7), num(2), is(num(3))}, {api.OpDiv, num(7), num(-2), is(num(-3))}, {api.OpDiv, num(-7), num(-2), is(num(3))}, {api.OpDiv, num(0), num(5), is(num(0))}, {api.OpDiv, num(least), num(1), is(num(least))}, {api.OpDiv, num(least), num(greatest), is(num(-1))},
		{api.OpMod, num(7), num(2), is(num(1))}, {api.OpMod, num(7), num(-2), is(num(1))}, {api.OpMod, num(-7), num(-2), is(num(-1))}, {api.OpMod, num(least), num(greatest), is(num(-1))},
		{api.OpDiv, num(1), num(0), traps(api.TrapDivide)}, {api.OpDiv, num(0), num(0), traps(api.TrapDivide)}, {api.OpMod, num(0), num(0), traps(api.TrapDivide)}, {api.OpDiv, num(least), num(0), traps(api.TrapDivide)},
		{api.OpDiv, yes(), num(0), traps(api.TrapWrong)}, {api.OpDiv, num(1), no(), traps(api.TrapWrong)}, {api.OpMod, num(1), channel(0), traps(api.TrapWrong)}, {api.OpDiv, no(), no(), traps(api.TrapWrong)}, {api.OpMod, channel(0), channel(0), traps(api.TrapWrong)},

		{api.OpLt, num(1), num(2), is(yes())}, {api.OpLt, num(2), num(2), is(no())}, {api.OpLt, num(3), num(2), is(no())}, {api.OpLt, num(least), num(greatest), is(yes())},
		{api.OpLe, num(1), num(2), is(yes())}, {api.OpLe, num(2), num(2), is(yes())}, {api.OpLe, num(3), num(2), is(no())}, {api.OpLe, num(greatest), num(least), is(no())},
		{api.OpGt, num(1), num(2), is(no())}, {api.OpGt, num(2), num(2), is(no())}, {api.OpGt, num(3), num(2), is(yes())}, {api.OpGt, num(greatest), num(least), is(yes())},
		{api.OpGe, num(1), num(2), is(no())}, {api.OpGe, num(2), num(2), is(yes())}, {api.OpGe, num(3), num(2), is(yes())}, {api.OpGe, num(least), num(greatest), is(no())},

		{api.OpEq, num(2), num(2), is(yes())}, {api.OpEq, num(2), num(3), is(no())}, {api.OpNe, num(2), num(2), is(no())}, {api.OpNe, num(2), num(3), is(yes())},
		{api.OpEq, yes(), yes(), is(yes())}, {api.OpEq, yes(), no(), is(no())}, {api.OpNe, no(), no(), is(no())}, {api.OpNe, yes(), no(), is(yes())},
		{api.OpEq, channel(0), channel(0), is(yes())}, {api.OpEq, channel(3), channel(0), is(no())}, {api.OpNe, channel(3), channel(3), is(no())}, {api.OpNe, channel(3), channel(4), is(yes())},
		{api.OpEq, num(0), no(), traps(api.TrapWrong)}, {api.OpEq, num(0), channel(0), traps(api.TrapWrong)}, {api.OpNe, yes(), channel(1), traps(api.TrapWrong)}, {api.OpEq, fn(0), fn(0), traps(api.TrapWrong)}, {api.OpNe, fn(1), fn(2), traps(api.TrapWrong)}, {api.OpNe, tuple(num(1), num(2)), tuple(num(1), num(2)), traps(api.TrapWrong)}, {api.OpEq, api.Value{}, api.Value{}, traps(api.TrapWrong)}, {api.OpEq, odd(7, 1), odd(7, 1), traps(api.TrapWrong)},

		{api.OpLt, yes(), yes(), traps(api.TrapWrong)}, {api.OpGe, channel(1), channel(1), traps(api.TrapWrong)}, {api.OpOr, no(), yes(), traps(api.TrapWrong)}, {api.OpNeg, num(1), num(1), traps(api.TrapWrong)}, {api.OpNot, yes(), yes(), traps(api.TrapWrong)}, {api.OpRecv, channel(1), channel(1), traps(api.TrapWrong)}, {0, num(1), num(1), traps(api.TrapWrong)}, {-1, num(1), num(1), traps(api.TrapWrong)}, {least, num(1), num(1), traps(api.TrapWrong)}, {greatest, yes(), yes(), traps(api.TrapWrong)},

		// Kind and Num alone are looked at.
		{api.OpAdd, odd(api.VInt, 2, num(9)), odd(api.VInt, 3, array()), is(num(5))}, {api.OpEq, odd(api.VBool, 7), odd(api.VBool, 7), is(yes())}, {api.OpEq, odd(api.VBool, 7), yes(), is(no())}, {api.OpNe, odd(api.VBool, -1), yes(), is(yes())}, {api.OpEq, channel(-3), channel(-3), is(yes())}, {api.OpEq, odd(api.VChan, 3, num(1)), odd(api.VChan, 3, num(2)), is(yes())}, {api.OpMod, odd(api.VInt, 2, num(9)), odd(api.VInt, 0, num(9)), traps(api.TrapDivide)},
	} {
		wantBin(t, x.op, x.a, x.b, x.want)
	}
}

// P7.8
func TestUnary(t *testing.T) {
	for _, x := range []struct {
		op   int
		a    api.Value
		want result
	}{
		{api.OpNeg, num(least), is(num(least))}, {api.OpNot, yes(), is(no())}, {api.OpRecv, channel(3), traps(api.TrapWrong)},
		{api.OpNeg, num(5), is(num(-5))}, {api.OpNeg, num(-5), is(num(5))}, {api.OpNeg, num(0), is(num(0))}, {api.OpNeg, num(greatest), is(num(least + 1))}, {api.OpNeg, num(least + 1), is(num(greatest))},
		{api.OpNot, no(), is(yes())}, {api.OpNot, odd(api.VBool, 2), is(no())}, {api.OpNot, odd(api.VBool, -1), is(no())}, {api.OpNot, odd(api.VBool, 0, num(1)), is(yes())}, {api.OpNeg, odd(api.VInt, 4, num(1)), is(num(-4))},
		{api.OpNeg, yes(), traps(api.TrapWrong)}, {api.OpNeg, channel(1), traps(api.TrapWrong)}, {api.OpNeg, array(), traps(api.TrapWrong)}, {api.OpNeg, api.Value{}, traps(api.TrapWrong)}, {api.OpNot, num(0), traps(api.TrapWrong)}, {api.OpNot, channel(0), traps(api.TrapWrong)}, {api.OpNot, fn(0), traps(api.TrapWrong)}, {api.OpNot, odd(7, 0), traps(api.TrapWrong)},
		{api.OpSub, num(1), traps(api.TrapWrong)}, {0, num(1), traps(api.TrapWrong)}, {0, no(), traps(api.TrapWrong)}, {-1, num(1), traps(api.TrapWrong)}, {greatest, no(), traps(api.TrapWrong)}, {api.OpRecv, num(1), traps(api.TrapWrong)}, {api.OpRecv, no(), traps(api.TrapWrong)},
	} {
		wantUnary(t, x.op, x.a, x.want)
	}
}

// wrapped is a number of any size as one of 64 bits.
func wrapped(n *big.Int) api.Value {
	low := new(big.Int).And(n, new(big.Int).SetUint64(^uint64(0)))
	return num(int(low.Uint64()))
}

func told(yes bool) result {
	v := api.Value{Kind: api.VBool}
	if yes {
		v.Num = 1
	}
	return is(v)
}

// plainBin reads P7.7 a second time, with numbers that do not wrap round by themselves.
func plainBin(op int, a, b api.Value) result {
	x, y, out := big.NewInt(int64(a.Num)), big.NewInt(int64(b.Num)), new(big.Int)
	ints := a.Kind == api.VInt && b.Kind == api.VInt
	bools := a.Kind == api.VBool && b.Kind == api.VBool
	chans := a.Kind == api.VChan && b.Kind == api.VChan
	switch {
	case op == api.OpAdd && ints:
		return is(wrapped(out.Add(x, y)))
	case op == api.OpSub && ints:
		return is(wrapped(out.Sub(x, y)))
	case op == api.OpMul && ints:
		return is(wrapped(out.Mul(x, y)))
	case (op == api.OpDiv || op == api.OpMod) && ints && y.Sign() == 0:
		return traps(api.TrapDivide)
	case op == api.OpDiv && ints:
		return is(wrapped(out.Quo(x, y)))
	case op == api.OpMod && ints:
		return is(wrapped(out.Rem(x, y)))
	case op == api.OpLt && ints:
		return told(x.Cmp(y) < 0)
	case op == api.OpLe && ints:
		return told(x.Cmp(y) <= 0)
	case op == api.OpGt && ints:
		return told(x.Cmp(y) > 0)
	case op == api.OpGe && ints:
		return told(x.Cmp(y) >= 0)
	case op == api.OpEq && (ints || bools || chans):
		return told(x.Cmp(y) == 0)
	case op == api.OpNe && (ints || bools || chans):
		return told(x.Cmp(y) != 0)
	}
	return traps(api.TrapWrong)
}

// plainUnary reads P7.8 a second time.
func plainUnary(op int, a api.Value) result {
	switch {
	case op == api.OpNeg && a.Kind == api.VInt:
		return is(wrapped(new(big.Int).Neg(big.NewInt(int64(a.Num)))))
	case op == api.OpNot && a.Kind == api.VBool:
		return told(a.Num == 0)
	}
	return traps(api.TrapWrong)
}

// Each operator, and numbers that are none, of each kind, and of some that there are not.
func TestEachOperator(t *testing.T) {
	nums := []int{least, least + 1, -1 << 32, -7, -2, -1, 0, 1, 2, 3, 10, 1 << 31, 1 << 32, 1 << 62, greatest - 1, greatest}
	for op := -2; op < 50; op++ {
		for _, x := range nums {
			for k := -1; k < 9; k++ {
				wantUnary(t, op, odd(k, x), plainUnary(op, odd(k, x)))
			}
			for _, y := range nums {
				for k := -1; k < 9; k++ {
					wantBin(t, op, odd(k, x), odd(k, y), plainBin(op, odd(k, x), odd(k, y)))
				}
			}
		}
		for k := -1; k < 9; k++ {
			for j := -1; j < 9; j++ {
				for _, y := range []int{-1, 0, 1} {
					wantBin(t, op, odd(k, 1), odd(j, y), plainBin(op, odd(k, 1), odd(j, y)))
				}
			}
		}
	}
}

func TestMadeNumbers(t *testing.T) {
	r := rand.New(rand.NewPCG(7, 1))
	some := func() api.Value { return num(int(r.Uint64() << r.IntN(64) >> r.IntN(64))) }
	ops := []int{api.OpAdd, api.OpSub, api.OpMul, api.OpDiv, api.OpMod, api.OpLt, api.OpLe, api.OpGt, api.OpGe, api.OpEq, api.OpNe}
	for range 20000 {
		a, b := some(), some()
		for _, op := range ops {
			wantBin(t, op, a, b, plainBin(op, a, b))
		}
		wantUnary(t, api.OpNeg, a, plainUnary(api.OpNeg, a))
	}
}
