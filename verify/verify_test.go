package verify

import (
	"math"
	"slices"
	"strings"
	"testing"

	"squint/api"
)

// example is a unit as text, and what Check tells of it; Heights of the first prog, if it is taken.
type example struct {
	text     string
	prog, at int
	why      api.Errno
	heights  []int
}

func examples(t *testing.T, all []example) {
	t.Helper()
	for _, x := range all {
		u := unitOf(t, x.text)
		prog, at, why := Check(u)
		if prog != x.prog || at != x.at || why != x.why {
			t.Errorf("%q: %d, %d, %d, want %d, %d, %d", x.text, prog, at, why, x.prog, x.at, x.why)
		}
		if got := Heights(u, 0); !slices.Equal(got, x.heights) {
			t.Errorf("%q: heights %v, want %v", x.text, got, x.heights)
		}
		held(t, u)
	}
}

// p is the head of the chapter's P.
const p = "prog 0 1 2 0, "

// TestExamples of the chapter: P9.1 and P9.2.
func TestExamples(t *testing.T) {
	examples(t, []example{
		{p + "ret", 0, 0, api.OK, []int{0}},
		{p + "int 1, ret", 0, 1, api.ErrVerifyStack, nil},
		{p + "int 1, store 0, load 0, pop, ret", 0, 0, api.OK, []int{0, 1, 0, 1, 0}},
		{p + "load 0, pop, ret", 0, 0, api.ErrVerifySlot, nil},
		{p + "load 1, pop, ret", 0, 0, api.ErrVerifySlot, nil},
		{p + "jump 0, ret", 0, 0, api.ErrVerifyJump, nil},
		{p + "back 1, ret", 0, 0, api.ErrVerifyJump, nil},
		{p + "back 0", 0, 0, api.OK, []int{0}},
		{p + "int 1", 0, 0, api.ErrVerifyEnd, nil},
		{p + "bool 1, false 4, int 1, store 0, ret", 0, 3, api.ErrVerifyMerge, nil},
		{p + "bool 1, false 5, int 1, store 0, clear 0, ret", 0, 0, api.OK, []int{0, 1, 0, 1, 0, 0}},
		{p + "cap 0, wait 0 2, pop, ret", 0, 0, api.OK, []int{0, 1, 1, 0}},
		{p + "cap 0, int 5, wait 1 3, ret", 0, 0, api.OK, []int{0, 1, 2, 0}},
		{p + "wait, int 1", 0, 0, api.OK, []int{0, -1}},
		{p + "ret, jump 9", 0, 1, api.ErrVerifyJump, nil},
		{p + "zero 0, pop, ret", 0, 0, api.ErrVerifyOp, nil},
		{p + "bool 2, pop, ret", 0, 0, api.ErrVerifyOp, nil},
		{p + "prog 1 0, pop, ret, prog 0 0 1 0, ret", 0, 0, api.ErrVerifyOp, nil},
		{p + "prog 1 1, pop, ret, prog 0 0 1 0, ret", 0, 0, api.ErrVerifyStack, nil},
	})
	for _, u := range []api.Unit{{}, {Types: []api.Type{{Kind: api.KInt}}}, {Progs: []api.Prog{}}, {Progs: []api.Prog{{Slots: 1, Caps: 2}}}, {Progs: []api.Prog{{Slots: 1, Caps: 2, Code: []api.Ins{}}}}} {
		if prog, at, why := Check(u); prog != 0 || at != 0 || why != api.ErrVerifyProg || len(Heights(u, 0)) != 0 {
			t.Errorf("%v: %d, %d, %d", u, prog, at, why)
		}
	}
	u := unitOf(t, p+"ret")
	u.Progs[0].Code[0].A = 1
	if prog, at, why := Check(u); prog != 0 || at != 0 || why != api.ErrVerifyOp {
		t.Errorf("ret 1: %d, %d, %d", prog, at, why)
	}
}

// TestBuilt: the units that chapter 10 has as examples.
func TestBuilt(t *testing.T) {
	examples(t, []example{
		{"prog 0 0 2 0, ret", 0, 0, api.OK, []int{0}},
		{"prog 0 1 2 0, cap 0, wait 0 2, store 0, cap 1, load 0, int 1, bin 31, wait 1 8, ret", 0, 0, api.OK, []int{0, 1, 1, 0, 1, 2, 3, 2, 0}},
		{"prog 0 1 2 0, bool 1, false 6, int 1, store 0, clear 0, back 0, ret", 0, 0, api.OK, []int{0, 1, 0, 1, 0, 0, 0}},
		{"prog 0 0 2 0, prog 1 0, int 3, begin 1, ret, prog 1 1 0 0, self, load 0, call 1 0, ret", 0, 0, api.OK, []int{0, 1, 2, 0}},
	})
}

// TestBounds: a prog's head, and whether it fits the unit's first prog and a later one.
func TestBounds(t *testing.T) {
	for _, x := range []struct {
		params, slots, caps int
		res                 bool
		first, second       bool
	}{
		{0, 0, 2, false, true, true},
		{0, 65535, 2, false, true, true},
		{0, 65536, 2, false, true, true},
		{0, 65537, 2, false, false, false},
		{0, math.MaxInt, 2, false, false, false},
		{0, -1, 2, false, false, false},
		{0, math.MinInt, 2, false, false, false},
		{-1, -1, 2, false, false, false},
		{-2, -1, 2, false, false, false},
		{-1, 0, 2, false, false, false},
		{math.MinInt, 5, 2, false, false, false},
		{1, 0, 2, false, false, false},
		{1, 1, 2, false, false, true},
		{4, 5, 2, false, false, true},
		{5, 5, 2, false, false, true},
		{6, 5, 2, false, false, false},
		{65535, 65536, 2, false, false, true},
		{65536, 65536, 2, false, false, true},
		{65537, 65536, 2, false, false, false},
		{65537, 65537, 2, false, false, false},
		{math.MaxInt, math.MaxInt, 2, false, false, false},
		{0, 0, 0, false, false, true},
		{0, 0, 1, false, false, true},
		{0, 0, 3, false, false, true},
		{0, 0, 65535, false, false, true},
		{0, 0, 65536, false, false, true},
		{0, 0, 65537, false, false, false},
		{0, 0, math.MaxInt, false, false, false},
		{0, 0, -1, false, false, false},
		{0, 0, math.MinInt, false, false, false},
		{0, 0, 2, true, false, true},
	} {
		one := api.Prog{Params: x.params, Slots: x.slots, Caps: x.caps, Res: x.res, Code: []api.Ins{{Op: api.IWait}}}
		right := api.Prog{Caps: 2, Code: []api.Ins{{Op: api.IRet}}}
		bounded(t, api.Unit{Progs: []api.Prog{one}}, 0, x.first)
		bounded(t, api.Unit{Progs: []api.Prog{one, right}}, 0, x.first)
		bounded(t, api.Unit{Progs: []api.Prog{right, one}}, 1, x.second)
		bounded(t, api.Unit{Progs: []api.Prog{right, right, one, right}}, 2, x.second)
		one.Code = nil
		bounded(t, api.Unit{Progs: []api.Prog{one}}, 0, false)
		bounded(t, api.Unit{Progs: []api.Prog{right, one, one}}, 1, false)
	}
}

func bounded(t *testing.T, u api.Unit, n int, fits bool) {
	t.Helper()
	why := api.ErrVerifyProg
	if fits {
		n, why = 0, api.OK
	}
	prog, at, got := Check(u)
	if prog != n || at != 0 || got != why {
		t.Errorf("%+v: %d, %d, %d, want %d, 0, %d", u, prog, at, got, n, why)
	}
	held(t, u)
}

// TestTypes: what kinds.Valid refuses is told at 0, 0, ahead of all that is wrong with progs.
func TestTypes(t *testing.T) {
	right, wrong := []api.Prog{{Caps: 2, Code: []api.Ins{{Op: api.IRet}}}}, []api.Prog{{Caps: 2, Code: []api.Ins{{Op: api.IRet}}}, {Params: 9}}
	for _, x := range []struct {
		types []api.Type
		valid bool
	}{
		{nil, true},
		{[]api.Type{}, true},
		{[]api.Type{{Kind: api.KInt}, {Kind: api.KBool}, {Kind: api.KArray, Kids: []int{2}}, {Kind: api.KTuple, Kids: []int{3, 3}}, {Kind: api.KProg}}, true},
		{[]api.Type{{}}, false},
		{[]api.Type{{Kind: 7}}, false},
		{[]api.Type{{Kind: api.KInt}, {Kind: api.KArray}}, false},
		{[]api.Type{{Kind: api.KArray, Kids: []int{1}}}, false},
		{[]api.Type{{Kind: api.KChan, Kids: []int{-1}}}, false},
		{[]api.Type{{Kind: api.KInt, Kids: []int{0}}}, false},
		{[]api.Type{{Kind: api.KTuple, Kids: []int{0}}}, false},
		{[]api.Type{{Kind: api.KProg, Res: true}}, false},
		{[]api.Type{{Kind: api.KInt, Res: true}}, false},
	} {
		bounded(t, api.Unit{Types: x.types, Progs: right}, 0, x.valid)
		if prog, at, why := Check(api.Unit{Types: x.types, Progs: wrong}); (prog == 1) != x.valid || at != 0 || why != api.ErrVerifyProg {
			t.Errorf("%v: %d, %d, %d", x.types, prog, at, why)
		}
		bounded(t, api.Unit{Types: x.types}, 0, false)
	}
}

// TestMaxCode: all progs together have at most MaxCode instructions. One list of them is the code of many progs; the second instruction is wrong on its own, so that a unit at the bound is soon refused for that.
func TestMaxCode(t *testing.T) {
	code := make([]api.Ins, 1<<16)
	for at := range code {
		code[at].Op = api.IRet
	}
	code[1].Op = 99
	many := func(n int, last int) api.Unit {
		u := api.Unit{Progs: slices.Repeat([]api.Prog{{Caps: 2, Code: code}}, n)}
		u.Progs[n-1].Code = code[:last]
		return u
	}
	for _, x := range []struct {
		n, last int
		right   bool
	}{
		{4096, len(code), true}, {4096, len(code) - 1, true}, {4097, 1, false}, {4097, len(code), false}, {10000, 1, false},
	} {
		prog, at, why := Check(many(x.n, x.last))
		if x.right && (prog != 0 || at != 1 || why != api.ErrVerifyOp) || !x.right && (prog != 0 || at != 0 || why != api.ErrVerifyProg) {
			t.Errorf("%d, the last with %d: %d, %d, %d", x.n, x.last, prog, at, why)
		}
	}
	// That the unit is too long is told ahead of what is wrong with one of its progs.
	u := many(4097, 1)
	u.Progs[3].Slots = -1
	if prog, at, why := Check(u); prog != 0 || at != 0 || why != api.ErrVerifyProg {
		t.Error("too long, and a prog that is wrong:", prog, at, why)
	}
	u = many(4096, len(code))
	u.Progs[3].Slots = -1
	if prog, at, why := Check(u); prog != 3 || at != 0 || why != api.ErrVerifyProg {
		t.Error("at the bound, and a prog that is wrong:", prog, at, why)
	}
}

// TestFirstOfSeveral: (a) ahead of (b) ahead of (c), prog by prog in each.
func TestFirstOfSeveral(t *testing.T) {
	const (
		right   = "prog 0 1 2 0, ret"
		shape   = "prog 2 1 2 0, ret"
		alone   = "prog 0 1 2 0, ret, jump 9"
		come    = "prog 0 1 2 0, pop, ret"
		both    = "prog 0 1 2 0, pop, jump 0"
		noFirst = "prog 1 1 2 0, ret"
	)
	for _, x := range []struct {
		progs    []string
		prog, at int
		why      api.Errno
	}{
		{[]string{right, come, alone, shape}, 3, 0, api.ErrVerifyProg},
		{[]string{come, alone, shape, shape}, 2, 0, api.ErrVerifyProg},
		{[]string{shape, shape}, 0, 0, api.ErrVerifyProg},
		{[]string{noFirst, shape}, 0, 0, api.ErrVerifyProg},
		{[]string{right, noFirst, shape}, 2, 0, api.ErrVerifyProg},
		{[]string{come, right, alone, alone}, 2, 1, api.ErrVerifyJump},
		{[]string{both}, 0, 1, api.ErrVerifyJump},
		{[]string{right, both, alone}, 1, 1, api.ErrVerifyJump},
		{[]string{come, both}, 1, 1, api.ErrVerifyJump},
		{[]string{come, come}, 0, 0, api.ErrVerifyStack},
		{[]string{right, noFirst, come, come}, 2, 0, api.ErrVerifyStack},
		{[]string{right, noFirst, right}, 0, 0, api.OK},
	} {
		u := unitOf(t, strings.Join(x.progs, ", "))
		if prog, at, why := Check(u); prog != x.prog || at != x.at || why != x.why {
			t.Errorf("%v: %d, %d, %d, want %d, %d, %d", x.progs, prog, at, why, x.prog, x.at, x.why)
		}
		held(t, u)
	}
}

// TestHeightsOfNone: P9.2.
func TestHeightsOfNone(t *testing.T) {
	taken := unitOf(t, "prog 0 1 2 0, int 1, pop, ret, prog 0 0 0 1, int 1, ret, int 2, prog 0 0 0 0, wait, ret")
	for n, want := range map[int][]int{0: {0, 1, 0}, 1: {0, 1, -1}, 2: {0, -1}, 3: nil, -1: nil, 4: nil, math.MaxInt: nil, math.MinInt: nil} {
		if got := Heights(taken, n); !slices.Equal(got, want) {
			t.Errorf("%d: %v, want %v", n, got, want)
		}
	}
	// What is wrong with one prog leaves the others without heights too.
	for _, tail := range []string{"prog 2 1 0 0, ret", "prog 0 0 0 0, ret, jump 0", "prog 0 0 0 0, pop, ret"} {
		u := unitOf(t, "prog 0 1 2 0, int 1, pop, ret, "+tail)
		for n := -1; n < 3; n++ {
			if got := Heights(u, n); len(got) != 0 {
				t.Errorf("%q, %d: %v", tail, n, got)
			}
		}
	}
	for _, n := range []int{-1, 0, 1} {
		if got := Heights(api.Unit{}, n); len(got) != 0 {
			t.Errorf("no progs, %d: %v", n, got)
		}
	}
}
