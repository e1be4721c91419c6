package verify

import (
	"slices"
	"strings"
	"testing"

	"squint/api"
	"squint/code"
	"squint/kinds"
)

// told is what the second reading says of a unit: Check's answer, in which part of the chapter it stands (a, b, c; none, if nothing is wrong), and of each prog that was followed how each of its instructions is come to.
type told struct {
	prog, at int
	why      api.Errno
	part     string
	heights  [][]int
}

// read is the second reading of the chapter, in its order, without care for time.
func read(u api.Unit) told {
	if n, right := readUnit(u); !right {
		return told{prog: n, why: api.ErrVerifyProg, part: "a"}
	}
	for n, p := range u.Progs {
		for at := range p.Code {
			if why := readAlone(u, p, at); why != api.OK {
				return told{prog: n, at: at, why: why, part: "b"}
			}
		}
	}
	var heights [][]int
	for n, p := range u.Progs {
		at, why, come := readWays(p)
		heights = append(heights, come)
		if why != api.OK {
			return told{prog: n, at: at, why: why, part: "c", heights: heights}
		}
	}
	return told{heights: heights}
}

func readUnit(u api.Unit) (int, bool) {
	sum := 0
	for _, p := range u.Progs {
		sum += len(p.Code)
	}
	if !kinds.Valid(u.Types) || sum > 268435456 || len(u.Progs) == 0 {
		return 0, false
	}
	for n, p := range u.Progs {
		if p.Params < 0 || p.Params > p.Slots || p.Slots < 0 || p.Slots > 65536 || p.Caps < 0 || p.Caps > 65536 || len(p.Code) == 0 {
			return n, false
		}
		if n == 0 && (p.Params != 0 || p.Caps != 2 || p.Res) {
			return n, false
		}
	}
	return 0, true
}

// readAlone leans on code.Print for what an operation has (P8.3 says it in the same words).
func readAlone(u api.Unit, p api.Prog, at int) api.Errno {
	i := p.Code[at]
	if _, unlike := code.Print(api.Unit{Progs: []api.Prog{{Code: []api.Ins{i}}}}); unlike != api.OK || !readRow(u, i) {
		return api.ErrVerifyOp
	}
	name := code.Name(i.Op)
	if strings.Contains(" load store clear part ", " "+name+" ") && (i.A < 0 || i.A > p.Slots-1) {
		return api.ErrVerifySlot
	}
	if name == "cap" && (i.A < 0 || i.A > p.Caps-1) {
		return api.ErrVerifySlot
	}
	for _, target := range targetsOf(i) {
		if target < 0 || target >= len(p.Code) || name != "back" && target <= at || name == "back" && target > at {
			return api.ErrVerifyJump
		}
	}
	return api.OK
}

// readRow is the operation's row of the chapter's first table.
func readRow(u api.Unit, i api.Ins) bool {
	switch code.Name(i.Op) {
	case "bool":
		return i.A == 0 || i.A == 1
	case "zero":
		return i.A >= 0 && i.A < len(u.Types) && !endless(u.Types, i.A)
	case "tuple":
		return i.A >= 2
	case "array", "field", "begin":
		return i.A >= 0
	case "call":
		return i.A >= 0 && (i.B == 0 || i.B == 1)
	case "part":
		return len(i.List) > 0 && slices.Min(i.List) >= -1
	case "unary":
		return i.A == 1 || i.A == 2
	case "bin":
		return i.A >= 21 && i.A <= 26 || i.A == 31 || i.A == 32 || i.A >= 41 && i.A <= 43
	case "prog":
		return i.A >= 0 && i.A < len(u.Progs) && i.B == u.Progs[i.A].Caps
	case "wait":
		for at, n := range i.List {
			if at%2 == 0 && n != 0 && n != 1 {
				return false
			}
		}
		return len(i.List)%2 == 0
	}
	return true
}

// byTuples are the rows to which a row leads by tuples alone, in one step or more.
func byTuples(rows []api.Type, from int) map[int]bool {
	been := map[int]bool{}
	var go1 func(row int)
	go1 = func(row int) {
		if rows[row].Kind != api.KTuple {
			return
		}
		for _, kid := range rows[row].Kids {
			if !been[kid] {
				been[kid] = true
				go1(kid)
			}
		}
	}
	go1(from)
	return been
}

// endless tells whether a row comes back to itself from there by tuples alone.
func endless(rows []api.Type, from int) bool {
	reached := byTuples(rows, from)
	reached[from] = true
	for row := range reached {
		if byTuples(rows, row)[row] {
			return true
		}
	}
	return false
}

func targetsOf(i api.Ins) []int {
	switch code.Name(i.Op) {
	case "jump", "false", "back":
		return []int{i.A}
	case "wait":
		var out []int
		for at := 1; at < len(i.List); at += 2 {
			out = append(out, i.List[at])
		}
		return out
	}
	return nil
}

// spot is how an instruction is come to: of each slot a byte, x if it has a value.
type spot struct {
	height int
	slots  string
}

// step is one with which an instruction goes on.
type step struct {
	at int
	spot
}

func readWays(p api.Prog) (int, api.Errno, []int) {
	met := map[int]spot{0: {0, strings.Repeat("x", p.Params) + strings.Repeat(".", p.Slots-p.Params)}}
	looked := map[int]bool{}
	at, why := 0, api.OK
	for ; at < len(p.Code) && why == api.OK; at++ {
		here, is := met[at]
		if !is || looked[at] {
			continue
		}
		looked[at] = true
		why = readLook(p, at, here, met)
		if why == api.OK {
			at = -1
		}
	}
	heights := make([]int, len(p.Code))
	for n := range p.Code {
		heights[n] = -1
		if here, is := met[n]; is {
			heights[n] = here.height
		}
	}
	if why == api.OK {
		return 0, why, heights
	}
	return at - 1, why, heights
}

func readLook(p api.Prog, at int, here spot, met map[int]spot) api.Errno {
	i := p.Code[at]
	name := code.Name(i.Op)
	if here.height < code.Pops(i) {
		return api.ErrVerifyStack
	}
	if name == "ret" && (p.Res && here.height != 1 || !p.Res && here.height != 0) {
		return api.ErrVerifyStack
	}
	if (name == "load" || name == "clear" || name == "part") && here.slots[i.A] != 'x' {
		return api.ErrVerifySlot
	}
	steps := readSteps(i, at, here)
	for _, s := range steps {
		if s.at == len(p.Code) {
			return api.ErrVerifyEnd
		}
	}
	for _, s := range steps {
		if other, is := met[s.at]; is && other != s.spot {
			return api.ErrVerifyMerge
		}
		met[s.at] = s.spot
	}
	return api.OK
}

func readSteps(i api.Ins, at int, here spot) []step {
	then := here
	then.height = here.height - code.Pops(i) + code.Pushes(i)
	switch code.Name(i.Op) {
	case "ret":
		return nil
	case "jump", "back":
		return []step{{i.A, then}}
	case "false":
		return []step{{at + 1, then}, {i.A, then}}
	case "wait":
		var out []step
		for n, target := range targetsOf(i) {
			out = append(out, step{target, spot{then.height + 1 - i.List[2*n], then.slots}})
		}
		return out
	case "store":
		then.slots = then.slots[:i.A] + "x" + then.slots[i.A+1:]
	case "clear":
		then.slots = then.slots[:i.A] + "." + then.slots[i.A+1:]
	}
	return []step{{at + 1, then}}
}

// held holds Check and Heights of a unit against the second reading, which it answers.
func held(t *testing.T, u api.Unit) told {
	t.Helper()
	want := read(u)
	prog, at, why := Check(u)
	if prog != want.prog || at != want.at || why != want.why {
		t.Fatalf("%s\nCheck: %d, %d, %d, want %d, %d, %d", shown(u), prog, at, why, want.prog, want.at, want.why)
	}
	for n := -1; n <= len(u.Progs); n++ {
		var heights []int
		if why == api.OK && n >= 0 && n < len(u.Progs) {
			heights = want.heights[n]
		}
		if got := Heights(u, n); !slices.Equal(got, heights) {
			t.Fatalf("%s\nHeights of %d: %v, want %v", shown(u), n, got, heights)
		}
	}
	return want
}

func shown(u api.Unit) string {
	if text, why := code.Print(u); why == api.OK && len(text) < 5000 {
		return text
	}
	return "(a unit that is not written as text)"
}

// unitOf reads lines that are parted by commas as code does.
func unitOf(t *testing.T, text string) api.Unit {
	t.Helper()
	u, line, why := code.Parse(strings.ReplaceAll(text, ", ", "\n") + "\n")
	if why != api.OK {
		t.Fatalf("%q: line %d", text, line)
	}
	return u
}
