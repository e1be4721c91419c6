package machine_test

import (
	"fmt"
	"math"
	"slices"
	"strings"
	"testing"

	"squint/api"
)

// zoo has values of each kind, right ones and odd ones.
func zoo() []api.Value {
	var out []api.Value
	for _, text := range strings.Split("none,0,1,2,-1,9223372036854775807,-9223372036854775808,false,true,[],[c3],[4 (c5 6)],(7 c8),(1 2 3),c0,c4,c-2,p0<>,p1<c3 c4>,p2<>,p3<c9>,p3<>,p4<>,p-1<>,"+
		"odd0:3<c3>,odd1:0<c6>,odd1:1<>,odd2:2<>,odd2:0<c3>,odd3:5<1>,odd4:5<1>,odd4:0<>,odd5:3<c7>,odd6:0<c3>,odd7:1<>,odd-1:0<c3 1>", ",") {
		out = append(out, valueOf(text))
	}
	return out
}

// tried does one instruction with values that are laid in order, each of them a parameter of the prog that does it; behind it what it lays is sent, so that it is told.
func tried(t *testing.T, i string, lays bool, got ...api.Value) api.Pause {
	t.Helper()
	var code []string
	for k := range got {
		code = append(code, fmt.Sprint("load ", k))
	}
	out := "wait 1 end, end:"
	if !lays {
		out = "int 77, wait 1 end, end:"
	}
	u := "type 1 0, prog 0 0 2 0, ret, prog 0 0 0 0, ret, prog 0 0 1 0, ret, " +
		fmt.Sprintf("prog %d %d 1 0, cap 0, %s, %s, %s, ret", len(got), len(got)+1, strings.Join(code, ", "), i, out)
	u = strings.ReplaceAll(u, ", , ", ", ")
	p := newPair(t, unitOf(t, u)).Child(prog(4, channel(5)), got)
	return p.Run(1000, 1)
}

// sent is what an instruction laid.
func sent(v api.Value) string { return "wait !5=" + text(v) }

func bare(v api.Value) api.Value { return api.Value{Kind: v.Kind, Num: v.Num} }

// TestOneValue: each instruction that pops one value, with each of the zoo.
func TestOneValue(t *testing.T) {
	for _, v := range zoo() {
		for _, x := range []struct {
			ins  string
			lays bool
			want func() string
		}{
			{"store 1", false, func() string { return sent(number(77)) }},
			{"pop", false, func() string { return sent(number(77)) }},
			{"store 1, load 1", true, func() string { return sent(v) }},
			{"array 1", true, func() string { return fmt.Sprint(sent(array(v)), " +", cellsOf(v)+1) }},
			{"prog 2 1", true, func() string { return fmt.Sprint(sent(prog(3, v)), " +", cellsOf(v)+1) }},
			{"len", true, func() string {
				if v.Kind != api.VArray {
					return "trap 5"
				}
				return sent(number(len(v.List)))
			}},
			{"field 1", true, func() string {
				if v.Kind != api.VTuple || len(v.List) < 2 {
					return "trap 5"
				}
				return sent(v.List[1])
			}},
			{"field 9223372036854775807", true, func() string { return "trap 5" }},
			{"unary 1", true, func() string {
				if v.Kind != api.VInt {
					return "trap 5"
				}
				return sent(number(-v.Num))
			}},
			{"unary 2", true, func() string {
				if v.Kind != api.VBool {
					return "trap 5"
				}
				return sent(truth(v.Num == 0))
			}},
			{"false else, int 6, wait 1 end, else:, int 8", true, func() string {
				if v.Kind != api.VBool {
					return "trap 5"
				}
				if v.Num == 0 {
					return sent(number(8))
				}
				return sent(number(6))
			}},
			{"call 0 0", false, func() string {
				if s := text(v); s == "p2<>" || s == "p3<c9>" || s == "p1<c3 c4>" {
					return "spent 6"
				} else if v.Kind == api.VProg && v.Num == 0 {
					return "trap 4"
				}
				return "trap 5"
			}},
			{"begin 0", false, func() string {
				if s := text(v); s == "p2<>" || s == "p3<c9>" || s == "p1<c3 c4>" {
					return "born " + s
				} else if v.Kind == api.VProg && v.Num == 0 {
					return "trap 4"
				}
				return "trap 5"
			}},
			{"wait 0 got, got:", true, func() string {
				if v.Kind != api.VChan {
					return "trap 5"
				}
				return fmt.Sprint("wait ?", v.Num)
			}},
		} {
			if got := line(tried(t, x.ins, x.lays, v)); got != x.want() {
				t.Errorf("%s of %s: %s, not %s", x.ins, text(v), got, x.want())
			}
		}
	}
}

// TestTwoValues: each that pops two.
func TestTwoValues(t *testing.T) {
	for _, a := range zoo() {
		for _, b := range zoo() {
			wantTwo(t, "fill", a, b, func() string {
				if a.Kind != api.VInt {
					return "trap 5"
				}
				if a.Num < 0 {
					return "trap 3"
				}
				if a.Num > 100 {
					return "spent 5"
				}
				list := slices.Repeat([]api.Value{b}, a.Num)
				return fmt.Sprint(sent(array(list...)), " +", 1+a.Num*cellsOf(b))
			})
			wantTwo(t, "index", a, b, func() string {
				if a.Kind != api.VArray || b.Kind != api.VInt {
					return "trap 5"
				}
				if b.Num < 0 || b.Num >= len(a.List) {
					return "trap 2"
				}
				return sent(a.List[b.Num])
			})
			for _, kind := range []int{api.VArray, api.VTuple} {
				name := map[int]string{api.VArray: "array 2", api.VTuple: "tuple 2"}[kind]
				wantTwo(t, name, a, b, func() string {
					return fmt.Sprint(sent(api.Value{Kind: kind, List: []api.Value{a, b}}), " +", 1+cellsOf(a)+cellsOf(b))
				})
			}
			for _, op := range []int{api.OpEq, api.OpNe, api.OpLt, api.OpLe, api.OpGt, api.OpGe, api.OpAdd, api.OpSub, api.OpMul, api.OpDiv, api.OpMod} {
				wantTwo(t, fmt.Sprint("bin ", op), a, b, func() string { return wantBin(op, bare(a), bare(b)) })
			}
		}
	}
}

func wantTwo(t *testing.T, ins string, a, b api.Value, want func() string) {
	t.Helper()
	if got := line(tried(t, ins, true, a, b)); got != want() {
		t.Errorf("%s of %s, %s: %s, not %s", ins, text(a), text(b), got, want())
	}
}

// wantBin is what an operator comes to.
func wantBin(op int, a, b api.Value) (out string) {
	defer func() {
		if p := recover(); p != nil {
			out = line(api.Pause(p.(ends)))
		}
	}()
	return sent(readBin(op, a, b))
}

// TestSends: arms that send, with whatever stands where a channel is wanted, and whatever is sent.
func TestSends(t *testing.T) {
	for _, on := range zoo() {
		for _, v := range zoo() {
			want := "trap 5"
			if on.Kind == api.VChan {
				want = fmt.Sprintf("wait !%d=%s", on.Num, text(v))
			}
			if got := line(tried(t, "wait 1 sent, sent:", false, on, v)); got != want {
				t.Errorf("to %s %s: %s, not %s", text(on), text(v), got, want)
			}
		}
	}
}

// TestOrder: of several values that are popped the one laid first is the first one.
func TestOrder(t *testing.T) {
	tales{
		{"prog 0 0 2 0, cap 1, int 1, int 2, int 3, tuple 3, wait 1 end, end:, ret", "run 9 1", "wait !2=(1 2 3) +4"},
		{"prog 0 0 2 0, cap 1, int 1, int 2, int 3, array 3, wait 1 end, end:, ret", "run 9 1", "wait !2=[1 2 3] +4"},
		{"prog 0 0 2 0, cap 1, int 1, int 2, int 3, prog 1 3, wait 1 end, end:, ret, prog 0 0 3 0, ret", "run 9 1", "wait !2=p2<1 2 3> +4"},
		{"prog 0 0 2 0, cap 1, int 7, int 2, bin 32, wait 1 end, end:, ret", "run 9 1", "wait !2=5"},
		{"prog 0 0 2 0, int 9, prog 1 0, int 1, int 2, int 3, begin 3, pop, ret, prog 3 3 0 0, ret", "run 9 1; run 9 1", "born p2<> 1 2 3 +1; exit"},
		{"prog 0 0 2 0, prog 1 0, int 1, int 2, int 3, call 3 0, ret, prog 3 3 0 0, make, load 0, load 1, load 2, tuple 3, wait 1 end, end:, ret", "run 9 2; run 9 2; give c9; run 9 2", "tick +1; make; wait !9=(1 2 3) +4"},
		{"prog 0 0 2 0, cap 0, cap 1, int 5, cap 1, cap 0, int 6, wait 0 got 1 sent 0 got 1 sent, got:, pop, sent:, ret", "run 9 1", "wait ?1 !2=5 ?2 !1=6"},
		// captured values from 0 on; a call's own value
		{"prog 0 0 2 0, cap 1, cap 0, wait 1 end, end:, ret", "run 9 1", "wait !2=c1"},
		{"prog 0 0 2 0, cap 1, self, wait 1 end, end:, ret", "run 9 1", "wait !2=p1<c1 c2>"},
		{"prog 0 0 2 0, int 4, cap 1, prog 1 2, call 0 0, ret, prog 0 0 2 0, cap 1, self, wait 1 end, end:, ret", "run 9 2; run 9 2", "tick +3; wait !2=p2<4 c2>"},
		{"prog 0 0 2 0, cap 1, bool 1, int -5, tuple 2, wait 1 end, end:, ret", "run 9 1", "wait !2=(true -5) +3"},
		// what a call returns is laid on what stands there already
		{"prog 0 0 2 0, cap 1, int 1, prog 1 0, call 0 1, int 3, tuple 3, wait 1 end, end:, ret, prog 0 0 0 1, int 2, ret", "run 9 2; run 9 2", "tick +1; wait !2=(1 2 3) +4"},
		{"prog 0 0 2 0, cap 1, int 1, prog 1 0, call 0 0, wait 1 end, end:, ret, prog 0 0 0 0, ret", "run 9 2; run 9 2", "tick +1; wait !2=1"},
		// the first call's result is nobody's
		{"prog 0 0 2 0, prog 1 0, begin 0, ret, prog 0 0 0 1, make, ret", "run 9 1; child p2<> (); run 9 1; give c5; held; run 9 1; held", "born p2<> +1; make; 5; exit; none"},
	}.try(t)
}

// TestZeros: default values of each type.
func TestZeros(t *testing.T) {
	types := "type 1 0, type 2 0, type 3 0 0, type 4 0 0 1, type 5 0 0, type 6 0, type 6 1 0 0, type 4 0 3 3 2, type 3 0 8, type 4 0 8 4, "
	for row, want := range []string{"0 +1", "false +1", "[] +1", "(0 false) +3", "c0 +1", "p0<> +1", "p0<> +1", "((0 false) (0 false) []) +8", "[] +1", "([] c0) +3"} {
		u := unitOf(t, fmt.Sprintf("%sprog 0 0 2 0, cap 1, zero %d, wait 1 end, end:, ret", types, row))
		if got := tale(t, u, "run 8 1"); got != "wait !2="+want {
			t.Errorf("row %d: %s, not %s", row, got, want)
		}
	}
}

// TestParts: IPart's ways down, and which trap comes first.
func TestParts(t *testing.T) {
	u := func(path string) api.Unit {
		code := "prog 0 0 2 0, ret, prog 5 5 1 0, "
		for k := range strings.Count(path, "-1") {
			code += fmt.Sprint("load ", k+1, ", ")
		}
		return unitOf(t, code+"load 4, part 0 "+path+", cap 0, load 0, wait 1 end, end:, ret")
	}
	for _, x := range []struct{ path, args, want string }{
		{"0", "((1 2) none none none 7)", "wait !5=(7 2) +3"},
		{"1", "((1 2) none none none [7])", "wait !5=(1 [7]) +4"},
		{"2", "((1 2) none none none 7)", "trap 5"},
		{"9223372036854775807", "((1 2) none none none 7)", "trap 5"},
		{"0", "([1 2] none none none 7)", "trap 5"},
		{"0", "(p2<1> none none none 7)", "trap 5"},
		{"0", "(5 none none none 7)", "trap 5"},
		{"-1", "([1 2] 0 none none 7)", "wait !5=[7 2] +3"},
		{"-1", "([1 2] 1 none none c7)", "wait !5=[1 c7] +3"},
		{"-1", "([1 2] 2 none none 7)", "trap 2"},
		{"-1", "([1 2] -1 none none 7)", "trap 2"},
		{"-1", "([1 2] -9223372036854775808 none none 7)", "trap 2"},
		{"-1", "([1 2] 9223372036854775807 none none 7)", "trap 2"},
		{"-1", "([] 0 none none 7)", "trap 2"},
		{"-1", "((1 2) 0 none none 7)", "trap 5"},
		{"-1", "((1 2) 9 none none 7)", "trap 5"},
		{"-1", "([1 2] false none none 7)", "trap 5"},
		{"-1", "([1 2] c0 none none 7)", "trap 5"},
		{"-1", "(none 0 none none 7)", "trap 5"},
		// further down; the indices in order
		{"-1 -1", "([[1 2] [3 4]] 1 0 none 7)", "wait !5=[[1 2] [7 4]] +7"},
		{"-1 1 -1", "([(1 [2 3]) (4 [5 6])] 0 1 none 7)", "wait !5=[(1 [2 7]) (4 [5 6])] +11"},
		{"1 0 -1", "((1 ([2 3] 4)) 1 none none (7 8))", "wait !5=(1 ([2 (7 8)] 4)) +9"},
		{"-1 -1 -1", "([[[1] [2 3]]] 0 1 1 [7])", "wait !5=[[[1] [2 [7]]]] +8"},
		// what comes first counts
		{"-1 -1", "([[1 2] 3] 2 false none 7)", "trap 2"},
		{"-1 -1", "([[1 2] 3] 1 false none 7)", "trap 5"},
		{"-1 -1", "([[1 2] 3] 1 9 none 7)", "trap 5"},
		{"-1 -1", "([[1 2] 3] 0 9 none 7)", "trap 2"},
		{"-1 -1", "([[1 2] 3] 0 false none 7)", "trap 5"},
		{"-1 -1", "([[1 2] 3] false 9 none 7)", "trap 5"},
		{"-1 5", "([(1 2) 3] 2 none none 7)", "trap 2"},
		{"-1 5", "([(1 2) 3] 0 none none 7)", "trap 5"},
		{"5 -1", "(([1] 2) 9 none none 7)", "trap 5"},
		{"0 -1", "(([1] 2) 9 none none 7)", "trap 2"},
		{"0 -1", "(([1] 2) none none none 7)", "trap 5"},
		// odd ones keep what else they have
		{"-1", "(odd3:9<1 2> 1 none none 7)", "wait !5=odd3:9<1 7> +3"},
		{"0", "(odd4:9<1> 1 none none none)", "wait !5=odd4:9<none> +2"},
	} {
		p := newPair(t, u(x.path)).Child(prog(2, channel(5)), valueOf(x.args).List)
		if got := line(p.Run(100, 1)); got != x.want {
			t.Errorf("%s of %s: %s, not %s", x.path, x.args, got, x.want)
		}
	}
}

// TestPartsTried: all ways down of a few steps, with whatever there is.
func TestPartsTried(t *testing.T) {
	values := []api.Value{valueOf("[[1 2] (3 [4])]"), valueOf("([1] ([2] 3))"), valueOf("[]"), valueOf("5"), valueOf("(c3 [c4 c5])")}
	indices := []api.Value{number(0), number(1), number(2), number(-1), truth(true)}
	steps := []string{"-1", "0", "1", "2"}
	seen := map[string]int{}
	for _, a := range steps {
		for _, b := range append(steps, "") {
			path := strings.TrimSpace(a + " " + b)
			unit := unitOf(t, "prog 0 0 2 0, ret, prog 4 4 1 0, "+strings.Repeat("load 1, ", strings.Count(a, "-1"))+strings.Repeat("load 2, ", strings.Count(b, "-1"))+"load 3, part 0 "+path+", cap 0, load 0, wait 1 end, end:, ret")
			first := newPair(t, unit)
			for _, v := range values {
				for _, k := range indices {
					for _, n := range indices {
						for _, part := range values[2:] {
							for _, cells := range []int{5, 100} {
								got := first.Child(prog(2, channel(5)), []api.Value{v, k, n, part}).Run(cells, 1)
								seen[fmt.Sprint(got.Kind, got.Code)]++
							}
						}
					}
				}
			}
		}
	}
	for _, end := range []string{"2 0", "4 2", "4 5", "7 5"} {
		if seen[end] < 50 {
			t.Error(seen)
		}
	}
}

// TestHuge: numbers of cells that are more than can be made, or counted one by one; each of them ends.
func TestHuge(t *testing.T) {
	for _, x := range []struct {
		many, cells int
		one         string
		want        string
	}{
		{math.MaxInt, math.MaxInt, "int 0", "spent 5"},
		{math.MaxInt - 1, math.MaxInt, "int 0", "exit +9223372036854775807"},
		{math.MaxInt - 1, math.MaxInt - 1, "int 0", "spent 5"},
		{math.MaxInt, 1 << 20, "int 0", "spent 5"},
		{1 << 62, math.MaxInt, "int 0, int 0, tuple 2", "spent 5 +3"},
		{1 << 40, math.MaxInt, "int 0, int 0, tuple 2", fmt.Sprint("exit +", 3+1+3<<40)},
		{(math.MaxInt - 4) / 3, math.MaxInt, "int 0, int 0, tuple 2", fmt.Sprint("exit +", 4+(math.MaxInt-4)/3*3)},
		{(math.MaxInt-4)/3 + 1, math.MaxInt, "int 0, int 0, tuple 2", "spent 5 +3"},
		{1 << 20, 1 << 20, "int 0", "spent 5"},
		{1<<20 - 1, 1 << 20, "int 0", "exit +1048576"},
	} {
		u := unitOf(t, fmt.Sprintf("prog 0 0 2 0, int %d, %s, fill, pop, ret", x.many, x.one))
		m := begun(t, u)
		if got := line(m.Run(x.cells, 1)); got != x.want {
			t.Errorf("%d of %s, %d cells: %s, not %s", x.many, x.one, x.cells, got, x.want)
		}
	}
	// length and elements of one that fills all
	u := unitOf(t, "prog 0 2 2 0, int 1099511627776, cap 0, fill, store 0, load 0, len, store 1, cap 1, load 1, load 0, int 1099511627775, index, tuple 2, wait 1 end, end:, load 0, int 1099511627776, index, pop, ret")
	m := begun(t, u)
	if got := line(m.Run(math.MaxInt, 1)); got != "wait !2=(1099511627776 c1) +1099511627780" || numbers(m.Held()) != "1 2" {
		t.Error(got)
	}
	m.Fire(0, number(0))
	if got := line(m.Run(math.MaxInt, 1)); got != "trap 2" {
		t.Error(got)
	}
}

// TestDoubled: values that have the one ahead twice.
func TestDoubled(t *testing.T) {
	u := unitOf(t, "prog 0 1 2 0, make, store 0, again:, load 0, load 0, tuple 2, store 0, back again")
	m := begun(t, u)
	m.Run(0, 1)
	m.Give(channel(8))
	cells := 1
	for range 61 {
		cells = 2*cells + 1
		p := m.Run(math.MaxInt, 1)
		if p.Kind != api.PTick || p.Cells != cells || numbers(m.Held()) != "1 2 8" {
			t.Fatal(cells, line(p))
		}
	}
	short, least := m.Clone(), m.Clone()
	cells = 2*cells + 1
	if p := m.Run(math.MaxInt, 1); p.Kind != api.PTick || p.Cells != cells || cells != math.MaxInt {
		t.Error(cells, line(p))
	}
	if p := short.Run(cells-1, 1); line(p) != "spent 5" {
		t.Error(line(p))
	}
	if p := least.Run(cells-1, 1); line(p) != "spent 5" {
		t.Error(line(p))
	}
	if p := m.Run(math.MaxInt, 1); line(p) != "spent 5" {
		t.Error(line(p))
	}
	// several of them, whose cells no number can hold
	for _, many := range []int{3, 4, 5, 8, 9} {
		u = unitOf(t, "prog 0 1 2 0, again:, cap 0, wait 0 got, got:, store 0, "+strings.Repeat("load 0, load 0, tuple 2, store 0, tick, ", 61)+strings.Repeat("load 0, ", many)+fmt.Sprintf("array %d, store 0, ret", many))
		m = begun(t, u)
		m.Run(0, 1)
		m.Fire(0, number(1))
		for range 61 {
			m.Run(math.MaxInt, 1)
		}
		if p := m.Run(math.MaxInt, 1); line(p) != "spent 5" {
			t.Error(many, line(p))
		}
	}
	// with a part of it another one
	u = unitOf(t, "prog 0 2 2 0, make, store 0, again:, load 0, load 0, array 2, store 0, load 0, len, int 1, bin 32, int 5, part 0 -1, back again")
	m = begun(t, u)
	m.Run(0, 1)
	m.Give(channel(8))
	for k := range 200 {
		if p := m.Run(math.MaxInt, 1); p.Kind != api.PTick || numbers(m.Held()) != "1 2 8" {
			t.Fatal(k, line(p))
		}
	}
}

// TestDeep: values with 2^16 parts nested in one another, handed in, kept, told and held.
func TestDeep(t *testing.T) {
	v := channel(9)
	cells := 1
	for range 1<<16 - 1 {
		v = tuple(channel(1000+cells), v)
		cells += 2
	}
	u := unitOf(t, "prog 0 1 2 0, cap 0, wait 0 got, got:, store 0, cap 1, load 0, wait 1 end, end:, load 0, array 1, store 0, tick, clear 0, ret")
	m := begun(t, u)
	m.Run(0, 1)
	m.Fire(0, v)
	if held := m.Held(); len(held) != 2+1<<16 {
		t.Error(len(held))
	}
	p := m.Run(0, 1)
	if len(p.Arms) != 1 || cellsOf(p.Arms[0].Value) != cells {
		t.Error(p.Kind)
	}
	m.Fire(0, v)
	n := m.Clone()
	if p := m.Run(cells+1, 1); p.Kind != api.PTick || p.Cells != cells+1 || len(m.Held()) != 2+1<<16 {
		t.Error(line(p))
	}
	if p := n.Run(cells, 1); line(p) != "spent 5" || n.Held() != nil {
		t.Error(line(p))
	}
	if c := m.Child(prog(1, v, v), nil); len(c.Held()) != 1<<16 {
		t.Error(len(c.Held()))
	}
}

// TestMany: many slots, arguments, arms, elements and calls.
func TestMany(t *testing.T) {
	most := api.MaxSlots
	code := fmt.Sprintf("prog 0 0 2 0, ret, prog %d %d %d 0, load %d, cap %d, tuple 2, store %d, wait, prog %d %d 0 0, ret", most-1, most, most, most-2, most-1, most-1, most, most)
	m := begun(t, unitOf(t, code))
	args := make([]api.Value, most)
	for k := range args {
		args[k] = channel(k + 10)
	}
	c := m.Child(prog(2, args...), args[:most-1])
	if p := c.Run(3, 1); line(p) != "wait +3" || len(c.Held()) != most {
		t.Error(line(p), len(c.Held()))
	}
	if p := m.Child(prog(2, args[1:]...), args[:most-1]).Run(3, 1); line(p) != "trap 5" {
		t.Error(line(p))
	}
	if p := m.Child(prog(2, args...), args).Run(3, 1); line(p) != "trap 5" {
		t.Error(line(p))
	}
	if p := m.Child(prog(3), args).Run(3, 1); line(p) != "exit" {
		t.Error(line(p))
	}
	// calls in one another: each begins with a slot more
	m = begun(t, unitOf(t, "prog 0 0 2 0, prog 1 0, int 0, call 1 0, ret, prog 1 2 0 0, load 0, int 1, bin 31, store 0, load 0, store 1, self, load 0, call 1 0, ret"))
	for k := range 100000 {
		if p := m.Run(1, 100001); p.Kind != api.PTick {
			t.Fatal(k, line(p))
		}
	}
	n := m.Clone()
	if p := m.Run(1, 100001); line(p) != "spent 6" {
		t.Error(line(p))
	}
	if p := n.Run(1, 100002); line(p) != "tick" {
		t.Error(line(p))
	}
}
