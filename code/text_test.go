package code

import (
	"math"
	"strings"
	"testing"

	"squint/api"
)

// shown keeps a text short that stands in a failure's message.
func shown(text string) string {
	if len(text) > 300 {
		return text[:300] + ".."
	}
	return text
}

// asked holds Parse's answer of a text against the second reading, and against what Print makes of it.
func asked(t *testing.T, text string) {
	t.Helper()
	u, at, code := Parse(text)
	if want := wrongLine(text); want != 0 {
		if at != want || code != api.ErrCodeForm || !isEmpty(u) {
			t.Errorf("Parse(%q): line %d, %d, want %d", shown(text), at, code, want)
		}
		return
	}
	if at != 0 || code != api.OK {
		t.Errorf("Parse(%q): line %d, %d, want a unit", shown(text), at, code)
		return
	}
	if text != "" && !same(u, unitOf(text)) {
		t.Errorf("Parse(%q): another unit", shown(text))
	}
	if again, code := Print(u); again != text || code != api.OK {
		t.Errorf("Print of Parse of %q: %q, %d", shown(text), shown(again), code)
	}
}

// written holds Print's answer of a unit against the second reading, and against what Parse makes of it.
func written(t *testing.T, u api.Unit) {
	t.Helper()
	want, ok := textOf(u)
	got, code := Print(u)
	if !ok {
		if got != "" || code != api.ErrCodeForm {
			t.Errorf("Print of a wrong unit: %q, %d", shown(got), code)
		}
		return
	}
	if got != want || code != api.OK {
		t.Errorf("Print: %q, %d, want %q", shown(got), code, shown(want))
		return
	}
	if v, at, code := Parse(got); at != 0 || code != api.OK || !same(u, v) {
		t.Errorf("Parse of %q: line %d, %d", shown(got), at, code)
	}
}

func progOf(code ...api.Ins) api.Unit { return api.Unit{Progs: []api.Prog{{Code: code}}} }

const head = "prog 0 0 0 0\n"

// TestTextExamples of the chapter: P8.3, P8.4.
func TestTextExamples(t *testing.T) {
	u := api.Unit{
		Types: []api.Type{{Kind: api.KProg, Kids: []int{1, 0}, Res: true}},
		Progs: []api.Prog{{Params: 1, Slots: 2, Res: true, Code: []api.Ins{{Op: api.IInt, A: -5}, {Op: api.IWait, List: []int{0, 2}}, {Op: api.IRet}}}},
	}
	want := "type 6 1 1 0\nprog 1 2 0 1\nint -5\nwait 0 2\nret\n"
	if got, code := Print(u); got != want || code != api.OK {
		t.Errorf("%q, %d", got, code)
	}
	if v, at, code := Parse(want); !same(u, v) || at != 0 || code != api.OK {
		t.Error(v, at, code)
	}
	for _, i := range []api.Ins{{Op: api.IRet, A: 1}, {Op: 28}} {
		if got, code := Print(progOf(i)); got != "" || code != api.ErrCodeForm {
			t.Errorf("%v: %q, %d", i, got, code)
		}
	}
	for _, x := range []struct {
		text string
		at   int
	}{{"ret\n", 1}, {"prog 0 0 0 0", 1}, {head + "ret 1\n", 2}} {
		if u, at, code := Parse(x.text); !isEmpty(u) || at != x.at || code != api.ErrCodeForm {
			t.Errorf("%q: %v, %d, %d", x.text, u, at, code)
		}
	}
}

// TestWholeText: P8.3, P8.4, P8.5 of a unit with each operation, written out by hand.
func TestWholeText(t *testing.T) {
	u := api.Unit{
		Types: []api.Type{{Kind: api.KInt}, {Kind: api.KTuple, Kids: []int{0, 1, 2}}, {Kind: api.KProg, Res: true}, {Kind: -9, Kids: []int{math.MinInt, -1}, Res: true}},
		Progs: []api.Prog{
			{Params: 1, Slots: 2, Caps: 3, Res: true, Code: []api.Ins{
				{Op: api.IInt, A: math.MinInt}, {Op: api.IBool, A: 7}, {Op: api.IZero, A: 1}, {Op: api.ILoad}, {Op: api.IStore, A: 2}, {Op: api.IClear, A: 3}, {Op: api.ICap, A: 4}, {Op: api.ISelf}, {Op: api.IPop},
				{Op: api.ITuple, A: 5}, {Op: api.IArray, A: 6}, {Op: api.IFill}, {Op: api.ILen}, {Op: api.IIndex}, {Op: api.IField, A: 8}, {Op: api.IPart, A: 9}, {Op: api.IPart, A: -1, List: []int{0, -1, 2}}, {Op: api.IUnary, A: 10}, {Op: api.IBin, A: 11},
			}},
			{},
			{Params: -1, Slots: math.MinInt, Caps: math.MaxInt, Code: []api.Ins{
				{Op: api.IJump, A: 12}, {Op: api.IFalse, A: 13}, {Op: api.IBack, A: 14}, {Op: api.IProg, A: 15, B: 16}, {Op: api.ICall, A: 17, B: 18}, {Op: api.IBegin, A: math.MaxInt}, {Op: api.IRet}, {Op: api.IMake}, {Op: api.IWait}, {Op: api.IWait, List: []int{1, 2, 3}},
			}},
		},
	}
	want := strings.Join([]string{
		"type 1 0", "type 4 0 0 1 2", "type 6 1", "type -9 1 -9223372036854775808 -1",
		"prog 1 2 3 1", "int -9223372036854775808", "bool 7", "zero 1", "load 0", "store 2", "clear 3", "cap 4", "self", "pop",
		"tuple 5", "array 6", "fill", "len", "index", "field 8", "part 9", "part -1 0 -1 2", "unary 10", "bin 11",
		"prog 0 0 0 0",
		"prog -1 -9223372036854775808 9223372036854775807 0", "jump 12", "false 13", "back 14", "prog 15 16", "call 17 18", "begin 9223372036854775807", "ret", "make", "wait", "wait 1 2 3", "",
	}, "\n")
	if got, code := Print(u); got != want || code != api.OK {
		t.Errorf("%q, %d", got, code)
	}
	if v, at, code := Parse(want); !same(u, v) || at != 0 || code != api.OK {
		t.Error(v, at, code)
	}
	// Each line alone, each left out, each twice, each two changed over: where the text is wrong then.
	lines := strings.SplitAfter(want, "\n")
	lines = lines[:len(lines)-1]
	for i := range lines {
		asked(t, lines[i])
		asked(t, strings.Join(lines[:i], ""))
		asked(t, strings.Join(lines[i:], ""))
		asked(t, strings.Join(lines[:i], "")+strings.Join(lines[i+1:], ""))
		for j := range lines {
			asked(t, strings.Join(lines[:i], "")+lines[j]+strings.Join(lines[i:], ""))
		}
	}
	for i := range len(want) {
		asked(t, want[:i])
		asked(t, want[i:])
		asked(t, want[:i]+want[i+1:])
		for _, more := range []string{" ", "\n", "0", "1", "-", "+", "\t", "\r", "\x00", "_", "a", "\xff", "٣"} {
			asked(t, want[:i]+more+want[i:])
			asked(t, want[:i]+more+want[i+1:])
		}
	}
}

// TestNothing: units without types, without progs, without instructions.
func TestNothing(t *testing.T) {
	for _, x := range []struct {
		u    api.Unit
		text string
	}{
		{api.Unit{}, ""},
		{api.Unit{Types: []api.Type{}, Progs: []api.Prog{}}, ""},
		{api.Unit{Types: []api.Type{{}}}, "type 0 0\n"},
		{api.Unit{Types: []api.Type{{Kids: []int{}, Res: true}}}, "type 0 1\n"},
		{api.Unit{Progs: []api.Prog{{}}}, head},
		{api.Unit{Progs: []api.Prog{{Code: []api.Ins{}}, {}}}, head + head},
		{api.Unit{Progs: []api.Prog{{Code: []api.Ins{{Op: api.IWait, List: []int{}}}}, {Code: []api.Ins{{Op: api.IRet}}}}}, head + "wait\n" + head + "ret\n"},
		{api.Unit{Types: []api.Type{{Kind: 1}}, Progs: []api.Prog{{}}}, "type 1 0\n" + head},
	} {
		if got, code := Print(x.u); got != x.text || code != api.OK {
			t.Errorf("%q, %d, want %q", got, code, x.text)
		}
		if u, at, code := Parse(x.text); !same(u, x.u) || at != 0 || code != api.OK {
			t.Errorf("%q: %v, %d, %d", x.text, u, at, code)
		}
	}
}

// TestPrintFields: P8.3, each operation with each of A, B and List, had or not, and numbers of none.
func TestPrintFields(t *testing.T) {
	lists := [][]int{nil, {}, {0}, {-1}, {1, math.MaxInt, math.MinInt}}
	for op := -1; op <= 29; op++ {
		for _, a := range numbersTried {
			for _, b := range numbersTried {
				for _, list := range lists {
					written(t, progOf(api.Ins{Op: op, A: a, B: b, List: list}))
				}
			}
		}
	}
	for _, op := range noOps {
		written(t, progOf(api.Ins{Op: op}))
	}
	// What is wrong may stand anywhere, and what stands ahead of it is not told.
	right, wrong := api.Ins{Op: api.IRet}, api.Ins{Op: api.IMake, List: []int{0}}
	for at := range 4 {
		code := []api.Ins{right, right, right, right}
		code[at] = wrong
		for p := range 3 {
			u := api.Unit{Types: []api.Type{{Kind: 1}}, Progs: make([]api.Prog, 3)}
			u.Progs[p].Code = code
			if got, code := Print(u); got != "" || code != api.ErrCodeForm {
				t.Errorf("wrong at %d of prog %d: %q, %d", at, p, got, code)
			}
		}
	}
}

// TestPrintLooksAtNothingElse: P8.3's remark.
func TestPrintLooksAtNothingElse(t *testing.T) {
	for _, n := range numbersTried {
		written(t, api.Unit{
			Types: []api.Type{{Kind: n, Kids: []int{n, n}}, {Kind: n, Res: true}},
			Progs: []api.Prog{{Params: n, Code: []api.Ins{{Op: api.IBool, A: n}, {Op: api.IZero, A: n}, {Op: api.IUnary, A: n}}}, {Slots: n, Res: true}, {Caps: n, Code: []api.Ins{{Op: api.ICall, A: n, B: n}, {Op: api.IWait, List: []int{n}}, {Op: api.IJump, A: n}}}},
		})
	}
}

// TestWrongLines: P8.4, by hand.
func TestWrongLines(t *testing.T) {
	for _, x := range []struct {
		text string
		at   int
	}{
		{"\n", 1}, {" \n", 1}, {" ", 1}, {"x", 1}, {head + "\n", 2}, {head + "\n\n", 2}, {"\n" + head, 1},
		{head + "ret", 2}, {head + "re", 2}, {head + "ret\nre", 3}, {head + "ret\n ", 3}, {"type 1 0", 1}, {"type 1 0\ntype 1 0", 2}, {"t", 1},
		{head + "ret \n", 2}, {head + " ret\n", 2}, {head + "int  1\n", 2}, {head + "int 1 \n", 2}, {head + "call 1  1\n", 2}, {"type  1 0\n", 1}, {"type 1 0 \n", 1}, {" type 1 0\n", 1}, {"prog 0 0 0 0 \n", 1}, {"prog  0 0 0 0\n", 1}, {head + "int\t1\n", 2}, {head + "ret\r\n", 2},
		{head + "int 01\n", 2}, {head + "int 00\n", 2}, {head + "int -0\n", 2}, {head + "int +1\n", 2}, {head + "int --1\n", 2}, {head + "int -01\n", 2}, {head + "int 1_0\n", 2}, {head + "int 0x1\n", 2}, {head + "int 1e1\n", 2}, {head + "int 1.0\n", 2}, {head + "int -\n", 2}, {head + "int a\n", 2},
		{head + "int 9223372036854775808\n", 2}, {head + "int -9223372036854775809\n", 2}, {head + "int 18446744073709551616\n", 2}, {head + "int 99999999999999999999999999\n", 2}, {head + "wait 0 9223372036854775808\n", 2}, {"type 9223372036854775808 0\n", 1}, {"type 1 0 -9223372036854775809\n", 1}, {"prog 0 9223372036854775808 0 0\n", 1},
		{head + "int\n", 2}, {head + "int 1 2\n", 2}, {head + "ret 0\n", 2}, {head + "call\n", 2}, {head + "call 1\n", 2}, {head + "call 1 0 0\n", 2}, {head + "part\n", 2}, {head + "prog\n", 2}, {head + "prog 1\n", 2}, {head + "prog 1 2 3\n", 2}, {head + "prog 1 2 3 0 0\n", 2},
		{"prog 0 0 0 2\n", 1}, {"prog 0 0 0 -1\n", 1}, {"prog 0 0 0\n", 1}, {"prog\n", 1}, {"type\n", 1}, {"type 1\n", 1}, {"type 1 2\n", 1}, {"type 1 -1\n", 1}, {"type 1 1 1 x\n", 1}, {"type 1 00\n", 1},
		{head + "Ret\n", 2}, {head + "RET\n", 2}, {head + "retret\n", 2}, {head + "1\n", 2}, {head + "0 1\n", 2}, {"Prog 0 0 0 0\n", 1}, {"Type 1 0\n", 1}, {head + "28\n", 2},
		{"ret\n", 1}, {"prog 1 2\n", 1}, {"type 1 0\nret\n", 2}, {"type 1 0\nprog 1 2\n", 2}, {"type 1 0\nint 1\n" + head, 2}, {head + "type 1 0\n", 2}, {head + "ret\ntype 1 0\n", 3}, {"type 1 0\n" + head + "type 1 0\n", 3},
		{"int x\n", 1}, {"type 1 0\n" + head + "ret\nprog 1 2\nprog 1 2 3\nbad\n", 5},
	} {
		if u, at, code := Parse(x.text); !isEmpty(u) || at != x.at || code != api.ErrCodeForm {
			t.Errorf("%q: %v, %d, %d, want %d", x.text, u, at, code, x.at)
		}
		if got := wrongLine(x.text); got != x.at {
			t.Errorf("second reading of %q: %d, want %d", x.text, got, x.at)
		}
	}
}

// TestNumbersWritten: P8.4, how a number may be written, in each place of a line.
func TestNumbersWritten(t *testing.T) {
	numbers := []string{"", "0", "1", "-1", "-0", "+0", "+1", "00", "01", "-01", "10", "-10", "--1", "-", "+", "1-", "1 ", " 1", "9223372036854775807", "9223372036854775808", "-9223372036854775808", "-9223372036854775809", "09223372036854775807", "0x1", "0b1", "0o1", "1_0", "1e3", "1.", "٣", "１", "\xff", "1\x00", "\v1", "nan", "2"}
	for _, n := range numbers {
		for _, pattern := range []string{"type N 0\n", "type 0 N\n", "type 0 0 N\n", "type 0 1 1 N 2\n", "prog N 0 0 0\n", "prog 0 N 0 0\n", "prog 0 0 N 0\n", "prog 0 0 0 N\n", "N", "N\n"} {
			asked(t, strings.ReplaceAll(pattern, "N", n))
		}
		for _, l := range table {
			for _, tail := range []string{"", "N", " N", " N N", " N 1", " 1 N", " 1 1 N", " 1 N 1 1", " N N N N", " 1 1 1 N"} {
				asked(t, head+l.name+strings.ReplaceAll(tail, "N", n)+"\n")
			}
		}
	}
}

// TestNumbersOfNumbers: P8.4, each name with up to 6 numbers: as a prog's first line, behind a type, behind a prog.
func TestNumbersOfNumbers(t *testing.T) {
	names := []string{"type", "", "x"}
	for _, l := range table {
		names = append(names, l.name)
	}
	for _, name := range names {
		for many := range 7 {
			for _, ahead := range []string{"", "type 1 0\n", head, head + "ret\n"} {
				for _, number := range []string{" 0", " 1", " 2"} {
					asked(t, ahead+name+strings.Repeat(number, many)+"\n")
					asked(t, ahead+name+strings.Repeat(number, many))
				}
			}
		}
	}
}
