package verify

import (
	"math"
	"slices"
	"testing"

	"squint/api"
	"squint/code"
)

// rowsTried: 0 to 5 have a default value (the array, the channel and the prog though they go round), 6 to 9 have none.
var rowsTried = []api.Type{
	{Kind: api.KInt},
	{Kind: api.KArray, Kids: []int{1}},
	{Kind: api.KTuple, Kids: []int{0, 1, 4}},
	{Kind: api.KChan, Kids: []int{6}},
	{Kind: api.KProg, Kids: []int{6, 7}, Res: true},
	{Kind: api.KTuple, Kids: []int{2, 2}},
	{Kind: api.KTuple, Kids: []int{0, 6}},
	{Kind: api.KTuple, Kids: []int{0, 8}},
	{Kind: api.KTuple, Kids: []int{7, 0}},
	{Kind: api.KTuple, Kids: []int{5, 7}},
}

// around lays an instruction as number 2 of 5 in the first of three progs, where it is never come to: so it is asked for itself alone. The prog has 3 slots, and as the first one 2 captured values; the others have 0 and 7.
func around(i api.Ins) api.Unit {
	ret := api.Ins{Op: api.IRet}
	return api.Unit{
		Types: rowsTried,
		Progs: []api.Prog{{Slots: 3, Caps: 2, Code: []api.Ins{ret, ret, i, ret, ret}}, {Code: []api.Ins{ret}}, {Caps: 7, Code: []api.Ins{ret}}},
	}
}

func alone(t *testing.T, i api.Ins, want api.Errno) {
	t.Helper()
	place := 2
	if want == api.OK {
		place = 0
	}
	if prog, at, why := Check(around(i)); prog != 0 || at != place || why != want {
		t.Errorf("%s %d %d %v: %d, %d, %d, want 0, %d, %d", code.Name(i.Op), i.A, i.B, i.List, prog, at, why, place, want)
	}
}

// TestNumbers: of each operation its A with 0 as B and no List (but where it wants them): which are taken, and with which error the others are refused.
func TestNumbers(t *testing.T) {
	type list = []int
	tried := list{math.MinInt, math.MinInt + 1, -1 << 32, -3, -2, -1, 50, 255, 256, 65535, 65536, 1 << 32, 1<<32 + 1, math.MaxInt - 1, math.MaxInt}
	for n := range 50 {
		tried = append(tried, n)
	}
	only := func(taken ...int) func(int) bool { return func(n int) bool { return slices.Contains(taken, n) } }
	from := func(least int) func(int) bool { return func(n int) bool { return n >= least } }
	for _, x := range []struct {
		op    int
		list  []int
		takes func(int) bool
		why   api.Errno
	}{
		{api.IInt, nil, from(math.MinInt), api.ErrVerifyOp},
		{api.IBool, nil, only(0, 1), api.ErrVerifyOp},
		{api.IZero, nil, only(0, 1, 2, 3, 4, 5), api.ErrVerifyOp},
		{api.ILoad, nil, only(0, 1, 2), api.ErrVerifySlot},
		{api.IStore, nil, only(0, 1, 2), api.ErrVerifySlot},
		{api.IClear, nil, only(0, 1, 2), api.ErrVerifySlot},
		{api.ICap, nil, only(0, 1), api.ErrVerifySlot},
		{api.ISelf, nil, only(0), api.ErrVerifyOp},
		{api.IPop, nil, only(0), api.ErrVerifyOp},
		{api.ITuple, nil, from(2), api.ErrVerifyOp},
		{api.IArray, nil, from(0), api.ErrVerifyOp},
		{api.IFill, nil, only(0), api.ErrVerifyOp},
		{api.ILen, nil, only(0), api.ErrVerifyOp},
		{api.IIndex, nil, only(0), api.ErrVerifyOp},
		{api.IField, nil, from(0), api.ErrVerifyOp},
		{api.IPart, list{0}, only(0, 1, 2), api.ErrVerifySlot},
		{api.IUnary, nil, only(api.OpNeg, api.OpNot), api.ErrVerifyOp},
		{api.IBin, nil, only(api.OpEq, api.OpNe, api.OpLt, api.OpLe, api.OpGt, api.OpGe, api.OpAdd, api.OpSub, api.OpMul, api.OpDiv, api.OpMod), api.ErrVerifyOp},
		{api.IJump, nil, only(3, 4), api.ErrVerifyJump},
		{api.IFalse, nil, only(3, 4), api.ErrVerifyJump},
		{api.IBack, nil, only(0, 1, 2), api.ErrVerifyJump},
		{api.IProg, nil, only(1), api.ErrVerifyOp},
		{api.ICall, nil, from(0), api.ErrVerifyOp},
		{api.IBegin, nil, from(0), api.ErrVerifyOp},
		{api.IRet, nil, only(0), api.ErrVerifyOp},
		{api.IMake, nil, only(0), api.ErrVerifyOp},
		{api.IWait, nil, only(0), api.ErrVerifyOp},
	} {
		for _, n := range tried {
			why := api.OK
			if !x.takes(n) {
				why = x.why
			}
			alone(t, api.Ins{Op: x.op, A: n, List: x.list}, why)
		}
	}
}

// TestSecondNumbers: B is 0 or 1 of ICall, the prog's Caps of IProg, 0 of all others.
func TestSecondNumbers(t *testing.T) {
	fits := map[int]api.Ins{
		api.ITuple: {A: 2}, api.IPart: {List: []int{0}}, api.IUnary: {A: 1}, api.IBin: {A: 21}, api.IJump: {A: 3}, api.IFalse: {A: 3}, api.IProg: {A: 1},
	}
	for op := 1; op <= api.Ops; op++ {
		i := fits[op]
		i.Op = op
		alone(t, i, api.OK)
		for _, b := range []int{math.MinInt, -1, 1, 2, 3, 7, math.MaxInt} {
			i.B = b
			why := api.ErrVerifyOp
			if op == api.ICall && b == 1 {
				why = api.OK
			}
			alone(t, i, why)
		}
	}
	for prog, caps := range []int{2, 0, 7} {
		for _, b := range []int{math.MinInt, -1, 0, 1, 2, 3, 6, 7, 8, 65536, math.MaxInt} {
			why := api.ErrVerifyOp
			if b == caps {
				why = api.OK
			}
			alone(t, api.Ins{Op: api.IProg, A: prog, B: b}, why)
		}
	}
	for _, prog := range []int{-1, 3, 4, math.MinInt, math.MaxInt} {
		alone(t, api.Ins{Op: api.IProg, A: prog}, api.ErrVerifyOp)
		alone(t, api.Ins{Op: api.IProg, A: prog, B: 2}, api.ErrVerifyOp)
	}
}

// TestLists: paths and arms; none of all others.
func TestLists(t *testing.T) {
	lists := []struct {
		list       []int
		path, arms api.Errno
	}{
		{nil, api.ErrVerifyOp, api.OK},
		{[]int{}, api.ErrVerifyOp, api.OK},
		{[]int{0}, api.OK, api.ErrVerifyOp},
		{[]int{-1}, api.OK, api.ErrVerifyOp},
		{[]int{-2}, api.ErrVerifyOp, api.ErrVerifyOp},
		{[]int{math.MaxInt}, api.OK, api.ErrVerifyOp},
		{[]int{math.MinInt}, api.ErrVerifyOp, api.ErrVerifyOp},
		{[]int{0, -1, 5, -1}, api.OK, api.ErrVerifyOp},
		{[]int{0, -1, 5, -2}, api.ErrVerifyOp, api.ErrVerifyOp},
		{[]int{-2, 0, 0, 0}, api.ErrVerifyOp, api.ErrVerifyOp},
		{[]int{0, 3}, api.OK, api.OK},
		{[]int{1, 4}, api.OK, api.OK},
		{[]int{0, 2}, api.OK, api.ErrVerifyJump},
		{[]int{0, 1}, api.OK, api.ErrVerifyJump},
		{[]int{1, 0}, api.OK, api.ErrVerifyJump},
		{[]int{1, 5}, api.OK, api.ErrVerifyJump},
		{[]int{1, -1}, api.OK, api.ErrVerifyJump},
		{[]int{1, math.MaxInt}, api.OK, api.ErrVerifyJump},
		{[]int{1, math.MinInt}, api.ErrVerifyOp, api.ErrVerifyJump},
		{[]int{2, 3}, api.OK, api.ErrVerifyOp},
		{[]int{-1, 3}, api.OK, api.ErrVerifyOp},
		{[]int{0, 3, 1, 4}, api.OK, api.OK},
		{[]int{0, 3, 1, 3, 0, 4}, api.OK, api.OK},
		{[]int{0, 3, 1, 5}, api.OK, api.ErrVerifyJump},
		{[]int{0, 5, 1, 3}, api.OK, api.ErrVerifyJump},
		{[]int{0, 5, 2, 3}, api.OK, api.ErrVerifyOp}, // an arm that is none, behind a target that is none
		{[]int{0, 5, 1}, api.OK, api.ErrVerifyOp},
		{[]int{0, 3, 1}, api.OK, api.ErrVerifyOp},
		{[]int{0, 3, 1, 4, 2, 4}, api.OK, api.ErrVerifyOp},
	}
	for _, x := range lists {
		alone(t, api.Ins{Op: api.IPart, A: 1, List: x.list}, x.path)
		alone(t, api.Ins{Op: api.IWait, List: x.list}, x.arms)
		for op := 1; op <= api.Ops; op++ {
			if op != api.IPart && op != api.IWait && len(x.list) > 0 {
				alone(t, api.Ins{Op: op, A: 3, List: x.list}, api.ErrVerifyOp)
			}
		}
	}
}

// TestFirstOfOne: ErrVerifyOp ahead of ErrVerifySlot and of ErrVerifyJump.
func TestFirstOfOne(t *testing.T) {
	for _, i := range []api.Ins{
		{Op: api.ILoad, A: 3, B: 1}, {Op: api.IStore, A: -1, List: []int{0}}, {Op: api.IClear, A: 3, B: -1}, {Op: api.ICap, A: 2, B: 1},
		{Op: api.IPart, A: 3}, {Op: api.IPart, A: 3, List: []int{-2}}, {Op: api.IPart, A: 3, B: 1, List: []int{0}},
		{Op: api.IJump, A: 2, B: 1}, {Op: api.IFalse, A: 2, List: []int{0}}, {Op: api.IBack, A: 3, B: 1}, {Op: api.IWait, A: 1, List: []int{0, 0}}, {Op: api.IWait, B: 1, List: []int{0, 9}},
	} {
		alone(t, i, api.ErrVerifyOp)
	}
}

// TestNoOperation: numbers of no operation, whatever else stands there.
func TestNoOperation(t *testing.T) {
	for _, op := range []int{math.MinInt, -1 << 32, -27, -2, -1, 0, 28, 29, 255, 256, 257, 1 << 32, 1<<32 + 1, math.MaxInt} {
		alone(t, api.Ins{Op: op}, api.ErrVerifyOp)
		alone(t, api.Ins{Op: op, A: 1}, api.ErrVerifyOp)
		alone(t, api.Ins{Op: op, B: 1, List: []int{0, 3}}, api.ErrVerifyOp)
	}
}

// TestAllAlone: each operation with all of these as A, B and List, against the second reading.
func TestAllAlone(t *testing.T) {
	numbers := []int{math.MinInt, -2, -1, 0, 1, 2, 3, 4, 5, 6, 7, 9, 10, 21, 26, 27, 31, 33, 41, 44, math.MaxInt}
	seconds := []int{math.MinInt, -1, 0, 1, 2, 7, math.MaxInt}
	lists := [][]int{nil, {0}, {-1}, {-2}, {0, 3}, {1, 2}, {0, 3, 1, 4}, {0, 3, 2, 9}, {1, 4, 0}}
	for op := -1; op <= api.Ops+1; op++ {
		for _, a := range numbers {
			for _, b := range seconds {
				for _, list := range lists {
					i := api.Ins{Op: op, A: a, B: b, List: list}
					u := around(i)
					want := read(u)
					if prog, at, why := Check(u); prog != want.prog || at != want.at || why != want.why {
						t.Errorf("%v: %d, %d, %d, want %d, %d, %d", i, prog, at, why, want.prog, want.at, want.why)
					}
				}
			}
		}
	}
}

// TestTargets at the edges of codes of a few lengths, for the instruction at each place.
func TestTargets(t *testing.T) {
	for length := 1; length <= 6; length++ {
		for at := range length {
			for target := -2; target <= length+1; target++ {
				inside := target >= 0 && target < length
				for _, x := range []struct {
					i     api.Ins
					right bool
				}{
					{api.Ins{Op: api.IJump, A: target}, inside && target > at},
					{api.Ins{Op: api.IFalse, A: target}, inside && target > at},
					{api.Ins{Op: api.IBack, A: target}, inside && target <= at},
					{api.Ins{Op: api.IWait, List: []int{0, target}}, inside && target > at},
					{api.Ins{Op: api.IWait, List: []int{1, length - 1, 1, target}}, inside && target > at && at < length-1},
				} {
					u := api.Unit{Progs: []api.Prog{{Caps: 2, Code: slices.Repeat([]api.Ins{{Op: api.IRet}}, length)}}}
					u.Progs[0].Code[at] = x.i
					want := held(t, u)
					if (want.why == api.ErrVerifyJump) == x.right {
						t.Errorf("%d of %d, %v: %d", at, length, x.i, want.why)
					}
				}
			}
		}
	}
}

// TestNoSlots: a prog without slots, one without captured values, and those with the most of them.
func TestNoSlots(t *testing.T) {
	for _, x := range []struct {
		slots, caps int
	}{{0, 0}, {1, 1}, {65536, 65536}, {0, 65536}, {65536, 0}} {
		for _, n := range []int{-1, 0, 1, 65535, 65536, math.MinInt, math.MaxInt} {
			for op, most := range map[int]int{api.ILoad: x.slots, api.IStore: x.slots, api.IClear: x.slots, api.IPart: x.slots, api.ICap: x.caps} {
				i := api.Ins{Op: op, A: n}
				if op == api.IPart {
					i.List = []int{-1}
				}
				ret := api.Ins{Op: api.IRet}
				u := api.Unit{Progs: []api.Prog{{Caps: 2, Code: []api.Ins{ret}}, {Slots: x.slots, Caps: x.caps, Code: []api.Ins{ret, i}}}}
				prog, at, why := Check(u)
				if n >= 0 && n < most && why != api.OK || (n < 0 || n >= most) && (prog != 1 || at != 1 || why != api.ErrVerifySlot) {
					t.Errorf("%d slots, %d captured, %v: %d, %d, %d", x.slots, x.caps, i, prog, at, why)
				}
			}
		}
	}
}

// zero is a unit that wants a row's default value, and does nothing with it.
func zero(types []api.Type, row int) api.Unit {
	return api.Unit{Types: types, Progs: []api.Prog{{Caps: 2, Code: []api.Ins{{Op: api.IZero, A: row}, {Op: api.IPop}, {Op: api.IRet}}}}}
}

// TestAllRows: all tables of up to 3 rows that are ints, arrays, or tuples of 2: which rows have a default value.
func TestAllRows(t *testing.T) {
	has, not := 0, 0
	for many := 1; many <= 3; many++ {
		kinds := []api.Type{{Kind: api.KInt}}
		for a := range many {
			kinds = append(kinds, api.Type{Kind: api.KArray, Kids: []int{a}})
			for b := range many {
				kinds = append(kinds, api.Type{Kind: api.KTuple, Kids: []int{a, b}})
			}
		}
		var grow func(types []api.Type)
		grow = func(types []api.Type) {
			if len(types) < many {
				for _, one := range kinds {
					grow(append(types[:len(types):len(types)], one))
				}
				return
			}
			for row := -1; row <= many; row++ {
				if held(t, zero(types, row)).why == api.OK {
					has++
				} else {
					not++
				}
			}
		}
		grow(nil)
	}
	if has < 1000 || not < 1000 {
		t.Error(has, not)
	}
}

// TestManyRows: long ways of tuples, without an end and with one; and tuples that double each other.
func TestManyRows(t *testing.T) {
	const many = 1 << 17
	types := make([]api.Type, many)
	for row := range types {
		types[row] = api.Type{Kind: api.KTuple, Kids: []int{min(row+1, many-1), min(row+1, many-1)}}
	}
	ask := func(row int, want api.Errno) {
		t.Helper()
		if _, _, why := Check(zero(types, row)); why != want {
			t.Errorf("%d: %d, want %d", row, why, want)
		}
	}
	ask(0, api.ErrVerifyOp)
	ask(many-1, api.ErrVerifyOp)
	types[many-1] = api.Type{Kind: api.KInt}
	ask(0, api.OK)
	ask(many-2, api.OK)
	types[many/2].Kids[1] = 0
	ask(0, api.ErrVerifyOp)
	ask(many/2, api.ErrVerifyOp)
	ask(many/2+1, api.OK)
	ask(many, api.ErrVerifyOp)
}
