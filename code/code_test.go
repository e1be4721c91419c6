package code

import (
	"math"
	"math/big"
	"strings"
	"testing"

	"squint/api"
)

// line is a line of the chapter's table: fields in the order A, B, List; what is taken and laid as text, as it stands there.
type line struct {
	op          int
	name        string
	has         string
	takes, lays string
}

var table = []line{
	{api.IInt, "int", "A", "0", "1"},
	{api.IBool, "bool", "A", "0", "1"},
	{api.IZero, "zero", "A", "0", "1"},
	{api.ILoad, "load", "A", "0", "1"},
	{api.IStore, "store", "A", "1", "0"},
	{api.IClear, "clear", "A", "0", "0"},
	{api.ICap, "cap", "A", "0", "1"},
	{api.ISelf, "self", "", "0", "1"},
	{api.IPop, "pop", "", "1", "0"},
	{api.ITuple, "tuple", "A", "A", "1"},
	{api.IArray, "array", "A", "A", "1"},
	{api.IFill, "fill", "", "2", "1"},
	{api.ILen, "len", "", "1", "1"},
	{api.IIndex, "index", "", "2", "1"},
	{api.IField, "field", "A", "1", "1"},
	{api.IPart, "part", "AL", "path", "0"},
	{api.IUnary, "unary", "A", "1", "1"},
	{api.IBin, "bin", "A", "2", "1"},
	{api.IJump, "jump", "A", "0", "0"},
	{api.IFalse, "false", "A", "1", "0"},
	{api.IBack, "back", "A", "0", "0"},
	{api.IProg, "prog", "AB", "B", "1"},
	{api.ICall, "call", "AB", "A + 1", "B"},
	{api.IBegin, "begin", "A", "A + 1", "0"},
	{api.IRet, "ret", "", "0", "0"},
	{api.IMake, "make", "", "0", "1"},
	{api.IWait, "wait", "L", "arms", "0"},
}

// noOps are numbers of no operation.
var noOps = []int{math.MinInt, math.MinInt + 1, -1 << 32, -28, -27, -2, -1, 0, 28, 29, 54, 255, 256, 257, 1<<32 + 1, 1<<32 + 27, math.MaxInt - 1, math.MaxInt}

// numbersTried are the edges that a number has.
var numbersTried = []int{math.MinInt, math.MinInt + 1, -1 << 32, -3, -2, -1, 0, 1, 2, 3, 7, 1 << 31, 1 << 32, math.MaxInt - 2, math.MaxInt - 1, math.MaxInt}

// TestTable holds the test's own table against what the chapter says of it: api's numbers, one by one.
func TestTable(t *testing.T) {
	if len(table) != api.Ops {
		t.Fatal(len(table), "lines")
	}
	for i, l := range table {
		if l.op != i+1 {
			t.Error(l.name, l.op)
		}
	}
}

// TestName: P8.1.
func TestName(t *testing.T) {
	for _, l := range table {
		if got := Name(l.op); got != l.name {
			t.Errorf("Name(%d): %q, want %q", l.op, got, l.name)
		}
		if got := Op(l.name); got != l.op {
			t.Errorf("Op(%q): %d, want %d", l.name, got, l.op)
		}
	}
	for _, op := range noOps {
		if got := Name(op); got != "" {
			t.Errorf("Name(%d): %q", op, got)
		}
	}
	for op := -5000; op < 5000; op++ {
		if got := Name(op); (got != "") != (op >= 1 && op <= 27) {
			t.Errorf("Name(%d): %q", op, got)
		}
	}
}

// TestNoName: P8.1, of texts near to names.
func TestNoName(t *testing.T) {
	names := map[string]int{}
	for _, l := range table {
		names[l.name] = l.op
	}
	ask := func(name string) {
		t.Helper()
		if got, want := Op(name), names[name]; got != want {
			t.Errorf("Op(%q): %d, want %d", name, got, want)
		}
	}
	for _, name := range []string{"", " ", "\n", "\x00", "Wait", "IInt", "iint", "type", "nil", "true", "1", "27", "int int", "\xff", "ınt", "none", "op", "while"} {
		ask(name)
	}
	for _, l := range table {
		ask(strings.ToUpper(l.name))
		ask(strings.ToUpper(l.name[:1]) + l.name[1:])
		for i := range len(l.name) {
			ask(l.name[:i])
			ask(l.name[i:])
			ask(l.name[:i] + l.name[i+1:])
			for b := range 256 {
				ask(l.name[:i] + string([]byte{byte(b)}) + l.name[i+1:])
				ask(l.name[:i] + string([]byte{byte(b)}) + l.name[i:])
				ask(l.name + string([]byte{byte(b)}))
			}
		}
		for _, m := range table {
			ask(l.name + m.name)
		}
	}
	ask(strings.Repeat("int", 1<<20))
}

// taken is the second reading of the column 'takes', without a bound to its numbers.
func taken(l line, i api.Ins) *big.Int {
	from0 := func(n int) *big.Int { return big.NewInt(int64(max(n, 0))) }
	switch l.takes {
	case "A":
		return from0(i.A)
	case "B":
		return from0(i.B)
	case "A + 1":
		return new(big.Int).Add(from0(i.A), big.NewInt(1))
	case "path":
		many := 1
		for _, n := range i.List {
			if n == -1 {
				many++
			}
		}
		return from0(many)
	case "arms":
		many := 0
		for at, n := range i.List {
			if at%2 == 0 && n == 1 {
				many += 2
			} else if at%2 == 0 {
				many++
			}
		}
		return from0(many)
	}
	return from0(int(l.takes[0] - '0'))
}

func laid(l line, i api.Ins) int {
	if l.lays == "B" {
		if i.B == 1 {
			return 1
		}
		return 0
	}
	return int(l.lays[0] - '0')
}

// TestStack: P8.2, each operation with all numbers and lists, those too that it has not.
func TestStack(t *testing.T) {
	lists := [][]int{nil, {}, {0}, {1}, {-1}, {2}, {0, 1}, {1, 0}, {1, 1}, {-1, -1}, {1, -1, 1}, {0, 5, 1, 7}, {0, -1, -1}, {math.MinInt, 1, math.MaxInt, 1, 1, 1, 1}, {-1, 1, -1, 1, 2, 2, 3}}
	limit := big.NewInt(math.MaxInt)
	for _, l := range table {
		for _, a := range numbersTried {
			for _, b := range numbersTried {
				for _, list := range lists {
					i := api.Ins{Op: l.op, A: a, B: b, List: list}
					want := taken(l, i)
					if want.Cmp(limit) > 0 {
						want = limit
					}
					if got := Pops(i); big.NewInt(int64(got)).Cmp(want) != 0 {
						t.Errorf("Pops(%v): %d, want %d", i, got, want)
					}
					if got, want := Pushes(i), laid(l, i); got != want {
						t.Errorf("Pushes(%v): %d, want %d", i, got, want)
					}
				}
			}
		}
	}
}

// TestStackSmallLists: P8.2, all Lists of up to 6 of the numbers that tell.
func TestStackSmallLists(t *testing.T) {
	some := []int{-1, 0, 1, 2}
	var grow func(list []int)
	grow = func(list []int) {
		for _, op := range []int{api.IPart, api.IWait, api.ITuple} {
			i := api.Ins{Op: op, A: 2, List: list}
			if got, want := Pops(i), int(taken(table[op-1], i).Int64()); got != want {
				t.Errorf("Pops(%v): %d, want %d", i, got, want)
			}
		}
		if len(list) == 6 {
			return
		}
		for _, n := range some {
			grow(append(list[:len(list):len(list)], n))
		}
	}
	grow(nil)
}

// TestStackOfNone: P8.2, numbers of no operation.
func TestStackOfNone(t *testing.T) {
	for _, op := range noOps {
		for _, n := range numbersTried {
			i := api.Ins{Op: op, A: n, B: n, List: []int{n, -1, 1, 1}}
			if a, b := Pops(i), Pushes(i); a != 0 || b != 0 {
				t.Errorf("%v: %d, %d", i, a, b)
			}
			if a, b := Pops(api.Ins{Op: op, A: n, B: 1}), Pushes(api.Ins{Op: op, A: n, B: 1}); a != 0 || b != 0 {
				t.Errorf("%v: %d, %d", i, a, b)
			}
		}
	}
}

// TestStackLong: P8.2, Lists of a million numbers.
func TestStackLong(t *testing.T) {
	const many = 1 << 20
	ones, mines := make([]int, many), make([]int, many)
	for i := range many {
		ones[i], mines[i] = 1, -1
	}
	for _, x := range []struct {
		i    api.Ins
		pops int
	}{
		{api.Ins{Op: api.IWait, List: ones}, many}, {api.Ins{Op: api.IWait, List: ones[1:]}, many}, {api.Ins{Op: api.IWait, List: mines}, many / 2},
		{api.Ins{Op: api.IPart, List: mines}, many + 1}, {api.Ins{Op: api.IPart, List: ones}, 1}, {api.Ins{Op: api.IFill, List: ones}, 2},
	} {
		if got := Pops(x.i); got != x.pops {
			t.Errorf("%s: %d, want %d", Name(x.i.Op), got, x.pops)
		}
	}
}

// TestExamples of the chapter.
func TestExamples(t *testing.T) {
	for _, x := range []struct {
		i            api.Ins
		pops, pushes int
	}{
		{api.Ins{Op: api.ITuple, A: 3}, 3, 1}, {api.Ins{Op: api.ITuple, A: -3}, 0, 1}, {api.Ins{Op: api.ICall, A: 2}, 3, 0}, {api.Ins{Op: api.ICall, A: 2, B: 1}, 3, 1}, {api.Ins{Op: api.ICall}, 1, 0},
		{api.Ins{Op: api.IPart, List: []int{0, -1, -1}}, 3, 0}, {api.Ins{Op: api.IWait, List: []int{0, 5, 1, 7}}, 3, 0}, {api.Ins{Op: api.ICall, A: math.MaxInt}, math.MaxInt, 0},
		{api.Ins{Op: api.IBegin, A: math.MaxInt - 1}, math.MaxInt, 0}, {api.Ins{Op: api.ICall, A: math.MinInt, B: 2}, 1, 0}, {api.Ins{Op: api.IProg, A: 9, B: math.MaxInt}, math.MaxInt, 1},
	} {
		if a, b := Pops(x.i), Pushes(x.i); a != x.pops || b != x.pushes {
			t.Errorf("%v: %d, %d, want %d, %d", x.i, a, b, x.pops, x.pushes)
		}
	}
}
