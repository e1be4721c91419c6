package code

import (
	"math"
	"math/rand/v2"
	"strings"
	"testing"
	"unsafe"

	"squint/api"
)

// maker makes up units and texts.
type maker struct{ *rand.Rand }

func newMaker(seed uint64) maker { return maker{rand.New(rand.NewPCG(seed, 8))} }

func (m maker) number() int {
	switch m.IntN(6) {
	case 0:
		return numbersTried[m.IntN(len(numbersTried))]
	case 1:
		return int(m.Uint64() >> m.IntN(64))
	case 2:
		return -int(m.Uint64() >> m.IntN(64))
	}
	return m.IntN(5) - 1
}

// list has spare room behind its end, with marks in it.
func (m maker) list() []int {
	list := make([]int, m.IntN(5), 8)
	for i := range list {
		list[i] = m.number()
	}
	for i := len(list); i < cap(list); i++ {
		list[:cap(list)][i] = 4711 + i
	}
	return list
}

func (m maker) instruction() api.Ins {
	l := table[m.IntN(len(table))]
	i := api.Ins{Op: l.op}
	if strings.Contains(l.has, "A") {
		i.A = m.number()
	}
	if strings.Contains(l.has, "B") {
		i.B = m.number()
	}
	if strings.Contains(l.has, "L") {
		i.List = m.list()
	}
	return i
}

func (m maker) unit() api.Unit {
	var u api.Unit
	for range m.IntN(4) {
		u.Types = append(u.Types, api.Type{Kind: m.number(), Kids: m.list(), Res: m.IntN(2) == 0})
	}
	for range m.IntN(4) {
		p := api.Prog{Params: m.number(), Slots: m.number(), Caps: m.number(), Res: m.IntN(2) == 0}
		for range m.IntN(6) {
			p.Code = append(p.Code, m.instruction())
		}
		u.Progs = append(u.Progs, p)
	}
	return u
}

// spoil gives one instruction of a unit something that it perhaps has not.
func (m maker) spoil(u api.Unit) {
	for _, p := range u.Progs {
		if len(p.Code) == 0 {
			continue
		}
		i := &p.Code[m.IntN(len(p.Code))]
		switch m.IntN(4) {
		case 0:
			i.Op = m.IntN(32) - 2
		case 1:
			i.A = m.number()
		case 2:
			i.B = m.number()
		case 3:
			i.List = m.list()
		}
		return
	}
}

// spoilText changes a few bytes, words or lines of a text.
func (m maker) spoilText(text string) string {
	pieces := []string{" ", "\n", "0", "1", "-", "9", "-1", "type", "prog", "ret", "int", "wait", "part", " 0", " 0 0", "\nret\n", "\ntype 1 0\n", "\nprog 0 0 0 0\n", "\t", "\x00", "x", "+", ""}
	for range 1 + m.IntN(2) {
		from := m.IntN(len(text) + 1)
		to := min(from+m.IntN(6), len(text))
		if m.IntN(2) == 0 {
			to = from
		}
		text = text[:from] + pieces[m.IntN(len(pieces))] + text[to:]
	}
	return text
}

// TestBothWays: P8.5, and P8.3 and P8.4 against the second reading, on made-up units.
func TestBothWays(t *testing.T) {
	m := newMaker(1)
	for range 20000 {
		u := m.unit()
		written(t, u)
		text, _ := textOf(u)
		asked(t, text)
		asked(t, m.spoilText(text))
		m.spoil(u)
		written(t, u)
	}
}

// TestOpOfName: P8.5.
func TestOpOfName(t *testing.T) {
	for op := 1; op <= api.Ops; op++ {
		if got := Op(Name(op)); got != op {
			t.Errorf("Op(Name(%d)): %d", op, got)
		}
	}
}

// TestSmallTexts: P8.4 and P8.5, all texts of up to 6 of these pieces.
func TestSmallTexts(t *testing.T) {
	pieces := []string{"type", "prog", "ret", "part", " 0", " 1", " 0 0 0", " ", "\n"}
	var grow func(text string, left int)
	grow = func(text string, left int) {
		asked(t, text)
		if left == 0 || t.Failed() {
			return
		}
		for _, p := range pieces {
			grow(text+p, left-1)
		}
	}
	grow("", 6)
	for _, p := range pieces {
		for _, q := range pieces {
			grow(head+p+q, 3)
			grow("type 1 1\n"+head+p+q, 2)
		}
	}
}

// TestFirstWrongLine: what is ahead of the line that is told is a unit's text; with that line it goes on in none.
func TestFirstWrongLine(t *testing.T) {
	m := newMaker(2)
	for range 5000 {
		text, _ := textOf(m.unit())
		text = m.spoilText(text)
		_, at, code := Parse(text)
		if code == api.OK {
			continue
		}
		lines := strings.SplitAfter(text, "\n")
		ahead := strings.Join(lines[:at-1], "")
		if _, _, code := Parse(ahead); code != api.OK {
			t.Errorf("%q: line %d is not the first", shown(text), at)
		}
		for _, more := range []string{"", "\n", "ret\n", head, "type 1 0\n"} {
			if strings.HasSuffix(lines[at-1], "\n") {
				if _, again, _ := Parse(ahead + lines[at-1] + more); again != at {
					t.Errorf("%q: line %d, then %d", shown(text), at, again)
				}
			}
		}
	}
}

// TestLong: long Lists, long Kids, many lines, and what is wrong at their very end.
func TestLong(t *testing.T) {
	const many = 1 << 17
	long := make([]int, many)
	for i := range long {
		long[i] = i*7919 - many
	}
	u := api.Unit{
		Types: []api.Type{{Kind: 4, Kids: long}},
		Progs: []api.Prog{{Code: []api.Ins{{Op: api.IWait, List: long}, {Op: api.IPart, A: math.MinInt, List: long}}}, {Code: make([]api.Ins, many)}},
	}
	for i := range u.Progs[1].Code {
		u.Progs[1].Code[i] = api.Ins{Op: api.ICall, A: i, B: -i}
	}
	written(t, u)
	text, _ := Print(u)
	for _, x := range []struct {
		tail string
		at   int
	}{{"x", many + 6}, {"ret", many + 6}, {"ret \n", many + 6}, {"type 1 0\n", many + 6}, {"wait" + strings.Repeat(" 1", many) + " \n", many + 6}, {"ret\nret 1\n", many + 7}} {
		if v, at, code := Parse(text + x.tail); at != x.at || code != api.ErrCodeForm || !isEmpty(v) {
			t.Errorf("%q behind a long text: line %d, %d, want %d", shown(x.tail), at, code, x.at)
		}
	}
	u.Progs[1].Code[many-1].List = []int{0}
	if got, code := Print(u); got != "" || code != api.ErrCodeForm {
		t.Error("the last of many instructions is wrong:", len(got), code)
	}
	for _, text := range []string{strings.Repeat("\n", many), strings.Repeat(" ", many), strings.Repeat("9", many), strings.Repeat("x", many) + "\n"} {
		if v, at, code := Parse(text); at != 1 || code != api.ErrCodeForm || !isEmpty(v) {
			t.Errorf("%q: %d, %d", shown(text), at, code)
		}
	}
	if _, at, code := Parse(head + "int " + strings.Repeat("9", many) + "\n"); at != 2 || code != api.ErrCodeForm {
		t.Error("a number of many digits:", at, code)
	}
}

// TestManyProgs: more progs and types than a few, each with its own.
func TestManyProgs(t *testing.T) {
	u := api.Unit{}
	for i := range 3000 {
		u.Types = append(u.Types, api.Type{Kind: i % 7, Kids: []int{i, -i}[:i%3], Res: i%2 == 0})
		u.Progs = append(u.Progs, api.Prog{Params: i, Slots: i + 1, Caps: i + 2, Res: i%2 == 1, Code: []api.Ins{{Op: api.IInt, A: i}, {Op: api.IWait, List: []int{i, 1, 2}}, {Op: api.IRet}}[:i%4]})
	}
	written(t, u)
}

// span is the memory of a list, its spare room too.
type span struct{ from, to uintptr }

func spanOf[T any](list []T) span {
	var one T
	if cap(list) == 0 {
		return span{}
	}
	from := uintptr(unsafe.Pointer(unsafe.SliceData(list)))
	return span{from, from + uintptr(cap(list))*unsafe.Sizeof(one)}
}

func spansOf(u api.Unit) []span {
	out := []span{spanOf(u.Types), spanOf(u.Progs)}
	for _, x := range u.Types {
		out = append(out, spanOf(x.Kids))
	}
	for _, p := range u.Progs {
		out = append(out, spanOf(p.Code))
		for _, i := range p.Code {
			out = append(out, spanOf(i.List))
		}
	}
	return out
}

// scribble writes over all of a unit that a caller can reach, the spare room too.
func scribble(u api.Unit) {
	for _, x := range u.Types {
		fill(x.Kids, 13)
	}
	for _, p := range u.Progs {
		for _, i := range p.Code {
			fill(i.List, 13)
		}
		fill(p.Code, api.Ins{Op: 99, A: 99, B: 99})
	}
	fill(u.Types, api.Type{Kind: 99})
	fill(u.Progs, api.Prog{Slots: 99})
}

func fill[T any](list []T, x T) {
	list = list[:cap(list)]
	for i := range list {
		list[i] = x
	}
}

// TestMemory: R4 and R5: no two lists of Parse's answers share memory, and what a caller writes there no other answer shows.
func TestMemory(t *testing.T) {
	m := newMaker(3)
	for range 3000 {
		text, _ := textOf(m.unit())
		a, _, _ := Parse(text)
		b, _, _ := Parse(text)
		spans := append(spansOf(a), spansOf(b)...)
		for i, x := range spans {
			for _, y := range spans[:i] {
				if x.from < y.to && y.from < x.to {
					t.Fatalf("%q: two lists share memory", shown(text))
				}
			}
		}
		scribble(a)
		if got, code := Print(b); got != text || code != api.OK {
			t.Fatalf("%q: an answer shows what was written to another one", shown(text))
		}
		if c, _, _ := Parse(text); !same(b, c) {
			t.Fatalf("%q: a later answer shows what was written to an earlier one", shown(text))
		}
	}
}

// TestAppendToOne: what a caller appends to one list of an answer no other list of it shows.
func TestAppendToOne(t *testing.T) {
	text := "type 4 0 0 1 2\ntype 6 1 3 4\nprog 0 0 0 0\nwait 0 1\npart 1 2 3\nret\nprog 1 1 0 0\nwait 1 2\n"
	u, _, _ := Parse(text)
	_ = append(u.Types[0].Kids, 77, 78, 79)
	_ = append(u.Types[1].Kids, 77, 78, 79)
	_ = append(u.Progs[0].Code[0].List, 77, 78, 79)
	_ = append(u.Progs[0].Code[1].List, 77, 78, 79)
	_ = append(u.Progs[0].Code[2].List, 77, 78, 79)
	_ = append(u.Progs[0].Code, api.Ins{Op: 77}, api.Ins{Op: 77})
	_ = append(u.Progs[1].Code, api.Ins{Op: 77}, api.Ins{Op: 77})
	_ = append(u.Progs, api.Prog{Slots: 77})
	_ = append(u.Types, api.Type{Kind: 77})
	if got, code := Print(u); got != text || code != api.OK {
		t.Errorf("%q, %d", got, code)
	}
}

// TestNotChanged: R4: what is handed to Print, Pops and Pushes stays, the spare room behind it too; and a text told stays when the unit changes.
func TestNotChanged(t *testing.T) {
	a, b := newMaker(4), newMaker(4)
	for range 3000 {
		u, v := a.unit(), b.unit()
		text, _ := Print(u)
		for _, p := range u.Progs {
			for _, i := range p.Code {
				Pops(i)
				Pushes(i)
			}
		}
		if !sameWithRoom(u, v) {
			t.Fatalf("%q: what was handed in has changed", shown(text))
		}
		scribble(u)
		if want, _ := textOf(v); text != want {
			t.Fatalf("%q: a text that was told has changed", shown(want))
		}
		if again, _ := Print(v); again != text {
			t.Fatalf("%q: another text of the same unit", shown(text))
		}
	}
}

func sameWithRoom(a, b api.Unit) bool {
	if !same(a, b) {
		return false
	}
	for i, x := range a.Types {
		if y := b.Types[i]; !sameInts(x.Kids[:cap(x.Kids)], y.Kids[:cap(y.Kids)]) {
			return false
		}
	}
	for i, p := range a.Progs {
		for j, x := range p.Code {
			if y := b.Progs[i].Code[j]; !sameInts(x.List[:cap(x.List)], y.List[:cap(y.List)]) {
				return false
			}
		}
	}
	return true
}

// TestTextOfBytes: R4: Parse keeps nothing of a text whose bytes a caller may use again (as a builder's or a buffer's are).
func TestTextOfBytes(t *testing.T) {
	text := "type 4 0 0 1 2\nprog 0 0 0 0\nwait 0 1\npart 1 2 3\nret\n"
	room := []byte(text)
	u, _, _ := Parse(unsafe.String(&room[0], len(room)))
	for i := range room {
		room[i] = '9'
	}
	if got, code := Print(u); got != text || code != api.OK {
		t.Errorf("%q, %d", got, code)
	}
	if name := Name(Op(strings.Clone("wait"))); name != "wait" {
		t.Error(name)
	}
}

// FuzzParse: P8.4 and P8.5 on texts whatever.
func FuzzParse(f *testing.F) {
	f.Add("type 6 1 1 0\nprog 1 2 0 1\nint -5\nwait 0 2\nprog 1 2\ncall 1 0\npart 1 -1\nret\n")
	f.Fuzz(asked)
}
