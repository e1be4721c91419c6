package verify

import (
	"math/rand/v2"
	"slices"
	"testing"

	"squint/api"
)

// TestStack: what an operation takes must be there; what is there where a prog ends must be its result.
func TestStack(t *testing.T) {
	const second = "prog 0 1 2 0, ret, prog 1 2 3 0, "
	const result = "prog 0 1 2 0, ret, prog 1 2 3 1, "
	examples(t, []example{
		{p + "pop, ret", 0, 0, api.ErrVerifyStack, nil},
		{p + "int 1, pop, pop, ret", 0, 2, api.ErrVerifyStack, nil},
		{p + "store 0, ret", 0, 0, api.ErrVerifyStack, nil},
		{p + "int 1, tuple 2, pop, ret", 0, 1, api.ErrVerifyStack, nil},
		{p + "int 1, int 2, tuple 2, pop, ret", 0, 0, api.OK, []int{0, 1, 2, 1, 0}},
		{p + "tuple 9223372036854775807, pop, ret", 0, 0, api.ErrVerifyStack, nil},
		{p + "array 0, pop, ret", 0, 0, api.OK, []int{0, 1, 0}},
		{p + "array 1, pop, ret", 0, 0, api.ErrVerifyStack, nil},
		{p + "array 9223372036854775807, pop, ret", 0, 0, api.ErrVerifyStack, nil},
		{p + "int 1, fill, pop, ret", 0, 1, api.ErrVerifyStack, nil},
		{p + "int 1, int 1, fill, len, pop, ret", 0, 0, api.OK, []int{0, 1, 2, 1, 1, 0}},
		{p + "len, pop, ret", 0, 0, api.ErrVerifyStack, nil},
		{p + "array 0, index, pop, ret", 0, 1, api.ErrVerifyStack, nil},
		{p + "array 0, int 1, index, field 3, pop, ret", 0, 0, api.OK, []int{0, 1, 2, 1, 1, 0}},
		{p + "field 0, pop, ret", 0, 0, api.ErrVerifyStack, nil},
		{p + "unary 1, pop, ret", 0, 0, api.ErrVerifyStack, nil},
		{p + "int 1, unary 1, bin 31, pop, ret", 0, 2, api.ErrVerifyStack, nil},
		{p + "self, make, bin 21, pop, ret", 0, 0, api.OK, []int{0, 1, 2, 1, 0}},
		{p + "false 1, ret", 0, 0, api.ErrVerifyStack, nil},
		{p + "prog 0 2, pop, ret", 0, 0, api.ErrVerifyStack, nil},
		{p + "int 1, prog 0 2, pop, ret", 0, 1, api.ErrVerifyStack, nil},
		{p + "int 1, int 2, prog 0 2, pop, ret", 0, 0, api.OK, []int{0, 1, 2, 1, 0}},
		{p + "call 0 0, ret", 0, 0, api.ErrVerifyStack, nil},
		{p + "self, call 0 0, ret", 0, 0, api.OK, []int{0, 1, 0}},
		{p + "self, call 0 1, ret", 0, 2, api.ErrVerifyStack, nil},
		{p + "self, call 0 1, pop, ret", 0, 0, api.OK, []int{0, 1, 1, 0}},
		{p + "self, call 1 0, ret", 0, 1, api.ErrVerifyStack, nil},
		{p + "self, int 1, int 2, call 2 1, pop, ret", 0, 0, api.OK, []int{0, 1, 2, 3, 1, 0}},
		{p + "self, call 9223372036854775807 0, ret", 0, 1, api.ErrVerifyStack, nil},
		{p + "begin 0, ret", 0, 0, api.ErrVerifyStack, nil},
		{p + "self, int 1, begin 1, ret", 0, 0, api.OK, []int{0, 1, 2, 0}},
		{p + "self, begin 9223372036854775806, ret", 0, 1, api.ErrVerifyStack, nil},
		{p + "wait 0 1, ret", 0, 0, api.ErrVerifyStack, nil},
		{p + "cap 0, wait 1 2, ret", 0, 1, api.ErrVerifyStack, nil},
		{p + "cap 0, cap 1, wait 0 3 1 3, ret", 0, 2, api.ErrVerifyStack, nil},
		{p + "int 1, store 0, part 0 0, ret", 0, 2, api.ErrVerifyStack, nil},
		{p + "int 1, store 0, int 2, part 0 0, ret", 0, 0, api.OK, []int{0, 1, 0, 1, 0}},
		{p + "int 1, store 0, int 2, part 0 -1, ret", 0, 3, api.ErrVerifyStack, nil},
		{p + "int 1, store 0, int 0, int 0, int 2, part 0 -1 3 -1, ret", 0, 0, api.OK, []int{0, 1, 0, 1, 2, 3, 0}},
		{second + "int 1, ret", 1, 1, api.ErrVerifyStack, nil},
		{second + "ret", 0, 0, api.OK, []int{0}},
		{result + "ret", 1, 0, api.ErrVerifyStack, nil},
		{result + "int 1, ret", 0, 0, api.OK, []int{0}},
		{result + "int 1, int 2, ret", 1, 2, api.ErrVerifyStack, nil},
		{result + "load 0, ret", 0, 0, api.OK, []int{0}},
	})
}

// TestSlots: which slots have a value.
func TestSlots(t *testing.T) {
	const two = "prog 0 1 2 0, ret, prog 2 3 0 0, "
	examples(t, []example{
		{p + "clear 0, ret", 0, 0, api.ErrVerifySlot, nil},
		{p + "int 1, part 0 0, ret", 0, 1, api.ErrVerifySlot, nil},
		{p + "int 1, store 0, clear 0, clear 0, ret", 0, 3, api.ErrVerifySlot, nil},
		{p + "int 1, store 0, clear 0, load 0, pop, ret", 0, 3, api.ErrVerifySlot, nil},
		{p + "int 1, store 0, clear 0, int 1, part 0 0, ret", 0, 4, api.ErrVerifySlot, nil},
		{p + "int 1, store 0, int 1, store 0, clear 0, int 1, store 0, load 0, pop, ret", 0, 0, api.OK, []int{0, 1, 0, 1, 0, 0, 1, 0, 1, 0}},
		{two + "load 0, pop, load 1, pop, ret", 0, 0, api.OK, []int{0}},
		{two + "load 2, pop, ret", 1, 0, api.ErrVerifySlot, nil},
		{two + "clear 1, clear 0, ret", 0, 0, api.OK, []int{0}},
		{two + "clear 1, load 0, pop, load 1, ret", 1, 3, api.ErrVerifySlot, nil},
		{two + "load 0, store 2, clear 0, load 2, part 1 0, ret", 0, 0, api.OK, []int{0}},
		// One prog's slots say nothing of the next one's.
		{p + "int 1, store 0, ret, prog 0 1 0 0, load 0, pop, ret", 1, 0, api.ErrVerifySlot, nil},
	})
}

// TestMeets: ways that meet with heights and slots that are alike and unlike.
func TestMeets(t *testing.T) {
	const two = "prog 0 2 2 0, "
	examples(t, []example{
		{p + "bool 1, false 2, ret", 0, 0, api.OK, []int{0, 1, 0}},
		{p + "jump 1, ret", 0, 0, api.OK, []int{0, 0}},
		{p + "bool 0, false 4, int 1, jump 5, int 2, pop, ret", 0, 0, api.OK, []int{0, 1, 0, 1, 0, 1, 0}},
		{p + "bool 0, false 4, int 1, jump 4, ret", 0, 3, api.ErrVerifyMerge, nil},
		{p + "bool 0, false 3, int 1, ret", 0, 2, api.ErrVerifyMerge, nil},
		{p + "int 7, bool 0, false 4, pop, ret", 0, 3, api.ErrVerifyMerge, nil},
		// As many slots have a value, but others.
		{two + "bool 0, false 5, int 1, store 0, jump 7, int 1, store 1, ret", 0, 6, api.ErrVerifyMerge, nil},
		{two + "bool 0, false 5, int 1, store 1, jump 7, int 1, store 1, ret", 0, 0, api.OK, []int{0, 1, 0, 1, 0, 0, 1, 0}},
		{two + "bool 0, false 6, int 1, store 0, clear 0, jump 6, ret", 0, 0, api.OK, []int{0, 1, 0, 1, 0, 0, 0}},
		{two + "int 1, store 0, bool 0, false 5, clear 0, ret", 0, 4, api.ErrVerifyMerge, nil},
		{two + "int 1, store 0, bool 0, false 7, clear 0, int 2, store 0, load 0, pop, ret", 0, 0, api.OK, []int{0, 1, 0, 1, 0, 0, 1, 0, 1, 0}},
		// A part that changes, and a slot that is stored again, have a value as ahead of it.
		{two + "int 1, store 0, bool 0, false 8, int 2, part 0 0, int 3, store 0, ret", 0, 0, api.OK, []int{0, 1, 0, 1, 0, 1, 0, 1, 0}},
		// The arms of a wait.
		{p + "cap 0, cap 1, wait 0 3 0 3, pop, ret", 0, 0, api.OK, []int{0, 1, 2, 1, 0}},
		{p + "cap 0, cap 1, int 1, wait 0 4 1 4, pop, ret", 0, 3, api.ErrVerifyMerge, nil},
		{p + "cap 1, int 1, cap 0, wait 1 4 0 4, ret", 0, 3, api.ErrVerifyMerge, nil},
		{p + "cap 0, cap 1, int 1, wait 0 4 1 5, pop, ret", 0, 0, api.OK, []int{0, 1, 2, 3, 1, 0}},
		{p + "cap 0, cap 1, int 1, wait 0 5 1 4, ret, pop, ret", 0, 0, api.OK, []int{0, 1, 2, 3, 0, 1, 0}},
		{p + "cap 0, int 1, cap 0, int 1, wait 1 5 1 5, ret", 0, 0, api.OK, []int{0, 1, 2, 3, 4, 0}},
		{p + "int 9, cap 0, wait 0 3, pop, pop, ret", 0, 0, api.OK, []int{0, 1, 2, 2, 1, 0}},
		{p + "cap 0, wait 0 2, ret", 0, 2, api.ErrVerifyStack, nil},
		{p + "cap 0, int 1, wait 1 3, pop, ret", 0, 3, api.ErrVerifyStack, nil},
	})
}

// TestRound: ways that go back, also to what was not come to before.
func TestRound(t *testing.T) {
	const two = "prog 0 2 2 0, "
	examples(t, []example{
		{p + "bool 1, false 3, back 0, ret", 0, 0, api.OK, []int{0, 1, 0, 0}},
		{p + "int 1, back 0", 0, 1, api.ErrVerifyMerge, nil},
		{p + "int 1, back 1", 0, 0, api.OK, []int{0, 1}},
		{p + "int 1, pop, back 0", 0, 0, api.OK, []int{0, 1, 0}},
		{p + "int 1, pop, back 1", 0, 2, api.ErrVerifyMerge, nil},
		{p + "int 1, store 0, back 0", 0, 2, api.ErrVerifyMerge, nil},
		{p + "int 1, store 0, back 2", 0, 0, api.OK, []int{0, 1, 0}},
		{p + "int 1, store 0, clear 0, back 0", 0, 0, api.OK, []int{0, 1, 0, 0}},
		// What stands ahead is come to by the back alone: it is looked at next, as it is the smallest.
		{p + "jump 3, int 1, jump 4, back 1, pop, ret", 0, 0, api.OK, []int{0, 0, 1, 0, 1, 0}},
		{p + "jump 3, pop, ret, back 1", 0, 1, api.ErrVerifyStack, nil},
		{p + "jump 2, ret, bool 1, false 6, back 1, ret, ret", 0, 0, api.OK, []int{0, 0, 0, 1, 0, -1, 0}},
		// 6 is wrong, and due; 1 is too, comes behind it, and is told, as it is smaller.
		{p + "jump 3, pop, ret, bool 1, false 6, back 1, pop, ret", 0, 1, api.ErrVerifyStack, nil},
		{p + "jump 2, load 0, bool 1, false 6, int 1, back 1, pop, ret", 0, 1, api.ErrVerifySlot, nil},
		// 1 is wrong, but what leads there is wrong too, and is told.
		{p + "jump 3, pop, ret, bool 1, load 0, back 1, ret", 0, 4, api.ErrVerifySlot, nil},
		{p + "jump 3, pop, ret, cap 0, wait 0 5 0 6, pop, back 1", 0, 4, api.ErrVerifyStack, nil},
		{p + "jump 2, ret, bool 1, false 5, back 1, pop, ret", 0, 5, api.ErrVerifyStack, nil},
		// A back to a middle that is come to in another way.
		{two + "jump 3, ret, ret, int 1, store 0, bool 1, false 8, back 1, back 2", 0, 0, api.OK, []int{0, 0, 0, 0, 1, 0, 1, 0, 0}},
		{two + "jump 3, jump 2, ret, int 1, store 0, bool 1, false 8, back 1, clear 0, back 2", 0, 9, api.ErrVerifyMerge, nil},
	})
}

// TestEnds: the last instruction.
func TestEnds(t *testing.T) {
	examples(t, []example{
		{p + "int 1, pop", 0, 1, api.ErrVerifyEnd, nil},
		{p + "int 1, store 0", 0, 1, api.ErrVerifyEnd, nil},
		{p + "self, call 0 0", 0, 1, api.ErrVerifyEnd, nil},
		{p + "self, begin 0", 0, 1, api.ErrVerifyEnd, nil},
		{p + "wait", 0, 0, api.OK, []int{0}},
		{p + "ret, int 1", 0, 0, api.OK, []int{0, -1}},
		{p + "back 0, int 1", 0, 0, api.OK, []int{0, -1}},
		{p + "jump 2, int 1, ret", 0, 0, api.OK, []int{0, -1, 0}},
		{p + "jump 1, int 1", 0, 1, api.ErrVerifyEnd, nil},
		{p + "ret, pop", 0, 0, api.OK, []int{0, -1}},
	})
}

// TestFirstAtOne: ErrVerifyStack ahead of ErrVerifySlot ahead of ErrVerifyEnd and of ErrVerifyMerge; each at the first instruction that is looked at.
func TestFirstAtOne(t *testing.T) {
	examples(t, []example{
		{p + "part 0 0", 0, 0, api.ErrVerifyStack, nil},
		{p + "int 1, part 0 0", 0, 1, api.ErrVerifySlot, nil},
		{p + "pop", 0, 0, api.ErrVerifyStack, nil},
		{p + "load 0", 0, 0, api.ErrVerifySlot, nil},
		{p + "clear 0", 0, 0, api.ErrVerifySlot, nil},
		{p + "bool 1, false 4, int 2, load 0, ret", 0, 3, api.ErrVerifySlot, nil},
		{p + "bool 1, false 3, pop, ret", 0, 2, api.ErrVerifyStack, nil},
		{p + "bool 1, false 3, load 0, pop", 0, 2, api.ErrVerifySlot, nil},
		{p + "bool 1, false 3, int 0, pop", 0, 2, api.ErrVerifyMerge, nil},
		{p + "bool 1, false 4, load 0, ret, pop", 0, 2, api.ErrVerifySlot, nil},
		{p + "bool 1, false 3, ret, pop", 0, 3, api.ErrVerifyStack, nil},
	})
}

// TestMostSlots: ways that meet with sets that are unlike in one slot of many, or in none.
func TestMostSlots(t *testing.T) {
	edges := []int{0, 1, 62, 63, 64, 65, 126, 127, 128, 129, 255, 256, 4095, 4096, 4097, 8191, 32767, 32768, 65534, 65535}
	for _, many := range []int{1, 2, 63, 64, 65, 127, 128, 129, 255, 256, 257, 4096, 4097, 65535, 65536} {
		for _, one := range edges {
			for _, other := range edges {
				if max(one, other) < many {
					meetsWith(t, many, one, other)
				}
			}
		}
	}
}

// meetsWith lets two ways meet, one of which has stored the one slot, the other the other.
func meetsWith(t *testing.T, many, one, other int) {
	t.Helper()
	code := []api.Ins{
		{Op: api.IBool, A: 1}, {Op: api.IFalse, A: 5},
		{Op: api.IInt}, {Op: api.IStore, A: one}, {Op: api.IJump, A: 7},
		{Op: api.IInt}, {Op: api.IStore, A: other},
		{Op: api.IRet},
	}
	u := api.Unit{Progs: []api.Prog{{Slots: many, Caps: 2, Code: code}}}
	_, at, why := Check(u)
	if one == other && why != api.OK || one != other && (at != 6 || why != api.ErrVerifyMerge) {
		t.Errorf("%d slots, %d and %d: %d, %d", many, one, other, at, why)
	}
	code[7] = api.Ins{Op: api.IClear, A: one}
	u.Progs[0].Code = append(code, api.Ins{Op: api.IRet})
	u.Progs[0].Code[4].A = 8
	u.Progs[0].Code[3], u.Progs[0].Code[6] = api.Ins{Op: api.IPop}, api.Ins{Op: api.IStore, A: one}
	if _, at, why := Check(u); why != api.OK {
		t.Errorf("%d slots, %d cleared: %d, %d", many, one, at, why)
	}
}

// TestParams: the first slots have a value, and no others.
func TestParams(t *testing.T) {
	edges := []int{0, 1, 2, 63, 64, 65, 127, 128, 129, 191, 192, 193, 4095, 4096, 4097, 65535, 65536}
	for _, slots := range edges {
		for _, params := range edges {
			if params > slots {
				break
			}
			for _, slot := range append(edges, params-1, params-2, params/2, params+1) {
				if slot < 0 || slot >= slots {
					continue
				}
				u := api.Unit{Progs: []api.Prog{{Caps: 2, Code: []api.Ins{{Op: api.IRet}}}, {Params: params, Slots: slots, Code: []api.Ins{{Op: api.ILoad, A: slot}, {Op: api.IPop}, {Op: api.IRet}}}}}
				if _, _, why := Check(u); slot < params && why != api.OK || slot >= params && why != api.ErrVerifySlot {
					t.Errorf("%d slots, %d parameters, load %d: %d", slots, params, slot, why)
				}
			}
		}
	}
}

// TestAllStored: two ways to have the same slots: as parameters of a way round, and stored one by one in some order.
func TestAllStored(t *testing.T) {
	r := rand.New(rand.NewPCG(9, 1))
	for _, many := range []int{1, 64, 65, 128, 1000, 65536} {
		order := r.Perm(many)
		var code []api.Ins
		for _, slot := range order {
			code = append(code, api.Ins{Op: api.IClear, A: slot})
		}
		for _, slot := range r.Perm(many) {
			code = append(code, api.Ins{Op: api.ICap}, api.Ins{Op: api.IStore, A: slot})
		}
		code = append(code, api.Ins{Op: api.IBack})
		u := api.Unit{Progs: []api.Prog{{Caps: 2, Code: []api.Ins{{Op: api.IRet}}}, {Params: many, Slots: many, Caps: 1, Code: code}}}
		if _, at, why := Check(u); why != api.OK {
			t.Errorf("%d: %d, %d", many, at, why)
		}
		// One that is stored twice leaves another one without a value.
		code[len(code)-2].A = code[len(code)-4].A
		if _, at, why := Check(u); many > 1 && (at != len(code)-1 || why != api.ErrVerifyMerge) {
			t.Errorf("%d, one left out: %d, %d", many, at, why)
		}
	}
}

// TestLong: long codes end: straight on, to and fro, with many arms.
func TestLong(t *testing.T) {
	const many = 1 << 17
	straight := make([]api.Ins, 2*many, 2*many+1)
	for at := range many {
		straight[at].Op, straight[many+at].Op = api.IMake, api.IPop
	}
	straight = append(straight, api.Ins{Op: api.IRet})
	u := api.Unit{Progs: []api.Prog{{Caps: 2, Code: straight}}}
	heights := Heights(u, 0)
	if len(heights) != 2*many+1 || heights[many] != many || slices.Max(heights) != many || heights[2*many] != 0 {
		t.Error("straight:", len(heights))
	}
	toAndFro := make([]api.Ins, 2*many)
	for at := range many {
		toAndFro[at], toAndFro[many+at] = api.Ins{Op: api.IJump, A: many + at}, api.Ins{Op: api.IBack, A: at + 1}
	}
	toAndFro[2*many-1] = api.Ins{Op: api.IRet}
	u.Progs[0].Code = toAndFro
	if heights := Heights(u, 0); len(heights) != 2*many || slices.Max(heights) != 0 || slices.Min(heights) != 0 {
		t.Error("to and fro:", len(heights))
	}
	toAndFro[2*many-1].Op = api.IPop
	if _, at, why := Check(u); at != 2*many-1 || why != api.ErrVerifyStack {
		t.Error("to and fro, the last one wrong:", at, why)
	}
}

// TestManyArms: a wait with more arms than a few, each with a target of its own.
func TestManyArms(t *testing.T) {
	const many = 1 << 15
	var code []api.Ins
	wait := api.Ins{Op: api.IWait}
	for arm := range many {
		code = append(code, api.Ins{Op: api.ICap})
		wait.List = append(wait.List, 0, many+1+2*arm)
	}
	code = append(code, wait)
	for range many {
		code = append(code, api.Ins{Op: api.IPop}, api.Ins{Op: api.IRet})
	}
	u := api.Unit{Progs: []api.Prog{{Caps: 2, Code: code}}}
	if _, at, why := Check(u); why != api.OK {
		t.Error(at, why)
	}
	wait.List[2*many-1]++
	if _, at, why := Check(u); at != len(code)-1 || why != api.ErrVerifyStack {
		t.Error("the last arm's target is one further on:", at, why)
	}
	wait.List[2*many-1] = len(code)
	if _, at, why := Check(u); at != many || why != api.ErrVerifyJump {
		t.Error("the last arm's target is none:", at, why)
	}
}

// TestProgsOneByOne: what is known of one prog's code is forgotten at the next, be it longer or shorter.
func TestProgsOneByOne(t *testing.T) {
	examples(t, []example{
		{"prog 0 1 2 0, int 1, store 0, int 5, pop, ret, prog 0 0 0 0, ret, int 5, prog 0 70 0 1, int 1, jump 3, ret, ret, prog 2 2 0 1, load 1, ret", 0, 0, api.OK, []int{0, 1, 0, 1, 0}},
		{"prog 0 1 2 0, ret, prog 0 0 0 1, int 1, ret, prog 0 0 0 0, int 1, ret", 2, 1, api.ErrVerifyStack, nil},
		{"prog 0 99 2 0, int 1, store 80, ret, prog 0 99 0 0, int 1, store 81, bool 1, false 6, int 1, store 80, ret", 1, 5, api.ErrVerifyMerge, nil},
		{"prog 0 99 2 0, int 1, store 80, ret, prog 0 99 0 0, load 80, pop, ret", 1, 0, api.ErrVerifySlot, nil},
	})
}
