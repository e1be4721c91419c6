package verify

import (
	"reflect"
	"slices"
	"testing"
	"unsafe"

	"squint/api"
	"squint/code"
)

// TestMade: Check takes what is made to be taken, and Heights are the second reading's.
func TestMade(t *testing.T) {
	m := newMaker(1)
	never := 0
	for range 5000 {
		u := m.unit()
		want := held(t, u)
		if want.why != api.OK {
			t.Fatalf("%s\nis refused: %d, %d, %d", shown(u), want.prog, want.at, want.why)
		}
		for _, heights := range want.heights {
			if slices.Contains(heights, -1) {
				never++
			}
		}
	}
	if never < 500 {
		t.Error("instructions that are never come to:", never)
	}
}

// TestSpoilt: P9.1 and P9.2 against the second reading, where something is wrong.
func TestSpoilt(t *testing.T) {
	m := newMaker(2)
	type fault struct {
		part string
		why  api.Errno
	}
	seen := map[fault]int{}
	for range 10000 {
		u := m.unit()
		for range 4 {
			want := held(t, m.spoilt(u))
			seen[fault{want.part, want.why}]++
		}
	}
	for _, x := range []fault{
		{"", api.OK}, {"a", api.ErrVerifyProg}, {"b", api.ErrVerifyOp}, {"b", api.ErrVerifySlot}, {"b", api.ErrVerifyJump},
		{"c", api.ErrVerifyStack}, {"c", api.ErrVerifySlot}, {"c", api.ErrVerifyEnd}, {"c", api.ErrVerifyMerge},
	} {
		if seen[x] < 50 {
			t.Errorf("%v: only %d times", x, seen[x])
		}
	}
}

// TestSmallCodes: P9.1 and P9.2 against the second reading, all codes of up to 4 of these instructions, and of 5 and 6 of a few of them, in the first prog, and in a second one with a parameter and a result.
func TestSmallCodes(t *testing.T) {
	all := unitOf(t, "prog 0 0 0 0, int 1, load 0, store 0, clear 0, pop, part 0 -1, false 1, false 2, false 3, jump 2, jump 3, back 0, back 1, back 2, ret, wait, wait 0 2, wait 0 3 1 3, wait 1 2 0 3").Progs[0].Code
	few := unitOf(t, "prog 0 0 0 0, int 1, store 0, clear 0, false 3, jump 4, back 1, ret").Progs[0].Code
	some := unitOf(t, "prog 0 0 0 0, int 1, pop, jump 3, back 1, false 4, ret").Progs[0].Code
	taken, refused := 0, 0
	grow := func(from []api.Ins, least, most int) {
		var more func(code []api.Ins)
		more = func(code []api.Ins) {
			if len(code) >= least {
				for _, u := range []api.Unit{
					{Progs: []api.Prog{{Slots: 1, Caps: 2, Code: code}}},
					{Progs: []api.Prog{{Caps: 2, Code: []api.Ins{{Op: api.IRet}}}, {Params: 1, Slots: 1, Res: true, Code: code}}},
				} {
					if held(t, u).why == api.OK {
						taken++
					} else {
						refused++
					}
				}
			}
			if len(code) < most {
				for _, i := range from {
					more(append(code[:len(code):len(code)], i))
				}
			}
		}
		more(nil)
	}
	grow(all, 0, 4)
	grow(few, 4, 5)
	grow(some, 6, 6)
	if taken < 1000 || refused < 1000 {
		t.Error(taken, refused)
	}
}

// run does what chapter 11 says that a call does with its slots, its stack and its code, whatever the values are, by picks for where it goes on. It fails where something is wanted that is not there, and where an instruction is done twice between two that are IBack or ICall.
func run(t *testing.T, m maker, u api.Unit, n, steps int) {
	t.Helper()
	p, heights := u.Progs[n], Heights(u, n)
	stack, at := 0, 0
	has := map[int]bool{}
	for slot := range p.Params {
		has[slot] = true
	}
	done := map[int]bool{}
	for range steps {
		if at < 0 || at >= len(p.Code) || stack != heights[at] || done[at] {
			t.Fatalf("%s\nprog %d, at %d: a stack of %d, done already: %t", shown(u), n, at, stack, done[at])
		}
		i := p.Code[at]
		done[at] = true
		if stack < code.Pops(i) || !runFinds(u, p, i, has) {
			t.Fatalf("%s\nprog %d, at %d: something is not there", shown(u), n, at)
		}
		stack += code.Pushes(i) - code.Pops(i)
		at++
		switch i.Op {
		case api.IStore:
			has[i.A] = true
		case api.IClear:
			has[i.A] = false
		case api.ICall:
			clear(done)
		case api.IBack:
			clear(done)
			at = i.A
		case api.IJump:
			at = i.A
		case api.IFalse:
			at = pick(m, []int{at, i.A})
		case api.IWait:
			if len(i.List) == 0 {
				return
			}
			arm := 2 * m.IntN(len(i.List)/2)
			stack += 1 - i.List[arm]
			at = i.List[arm+1]
		case api.IRet:
			if stack != one(p.Res) {
				t.Fatalf("%s\nprog %d ends with %d", shown(u), n, stack)
			}
			return
		}
	}
}

func one(is bool) int {
	if is {
		return 1
	}
	return 0
}

// runFinds tells whether a slot, a captured value, a row or a prog that an instruction wants is there.
func runFinds(u api.Unit, p api.Prog, i api.Ins, has map[int]bool) bool {
	switch i.Op {
	case api.ILoad, api.IClear, api.IPart:
		return i.A >= 0 && i.A < p.Slots && has[i.A]
	case api.IStore:
		return i.A >= 0 && i.A < p.Slots
	case api.ICap:
		return i.A >= 0 && i.A < p.Caps
	case api.IZero:
		return i.A >= 0 && i.A < len(u.Types) && !endless(u.Types, i.A)
	case api.IProg:
		return i.A >= 0 && i.A < len(u.Progs) && i.B == u.Progs[i.A].Caps
	}
	return true
}

// TestSafe: P9.3 and P9.4, on all that is taken of made-up and spoilt units.
func TestSafe(t *testing.T) {
	m := newMaker(3)
	spoilt := 0
	for range 4000 {
		u := m.unit()
		other := m.spoilt(u)
		if _, _, why := Check(other); why == api.OK {
			u = other
			spoilt++
		}
		for n := range u.Progs {
			for range 3 {
				run(t, m, u, n, 200)
			}
		}
	}
	if spoilt < 200 {
		t.Error("spoilt units that are taken:", spoilt)
	}
}

// TestNumbersAside: P9.5: other numbers of IInt, another A of IBool, other instructions where none is come to: the same answer.
func TestNumbersAside(t *testing.T) {
	m := newMaker(4)
	taken, refused, changed := 0, 0, 0
	for range 6000 {
		u := m.unit()
		if m.IntN(2) == 0 {
			u = m.spoilt(u)
		}
		want := read(u)
		if want.part == "a" || want.part == "b" {
			continue
		}
		other := copied(u)
		for n := range want.heights {
			for at, height := range want.heights[n] {
				i := &other.Progs[n].Code[at]
				if height < 0 && m.IntN(2) == 0 {
					*i = m.instruction(u, u.Progs[n], at)
					changed++
				}
				switch i.Op {
				case api.IInt:
					i.A = int(m.Uint64())
				case api.IBool:
					i.A = m.IntN(2)
				}
			}
		}
		prog, at, why := Check(other)
		if prog != want.prog || at != want.at || why != want.why {
			t.Fatalf("%s\nand\n%s\n%d, %d, %d, then %d, %d, %d", shown(u), shown(other), want.prog, want.at, want.why, prog, at, why)
		}
		if why != api.OK {
			refused++
			continue
		}
		taken++
		for n := range u.Progs {
			if !slices.Equal(Heights(u, n), Heights(other, n)) {
				t.Fatalf("%s\nand\n%s\nother heights", shown(u), shown(other))
			}
		}
	}
	if taken < 1000 || refused < 300 || changed < 1000 {
		t.Error(taken, refused, changed)
	}
}

// TestOneMore: P9.6: a prog behind the others, of which none has a name, changes nothing.
func TestOneMore(t *testing.T) {
	m := newMaker(5)
	seen := map[string]int{}
	for range 6000 {
		u := m.unit()
		head := m.head()
		more := head
		more.Code = m.code(u.Progs, head, 1+m.IntN(5))
		if m.IntN(2) == 0 {
			u = m.spoilt(u)
		}
		if names(u, len(u.Progs)) || len(u.Progs[0].Code) == 0 || !takes(u, more) {
			continue
		}
		want := held(t, u)
		seen[want.part]++
		larger := copied(u)
		larger.Progs = append(larger.Progs, more)
		prog, at, why := Check(larger)
		if prog != want.prog || at != want.at || why != want.why {
			t.Fatalf("%s\n%d, %d, %d, with one more %d, %d, %d", shown(larger), want.prog, want.at, want.why, prog, at, why)
		}
		for n := range u.Progs {
			if !slices.Equal(Heights(u, n), Heights(larger, n)) {
				t.Fatalf("%s\nother heights of %d with one more", shown(larger), n)
			}
		}
	}
	for _, part := range []string{"", "a", "b", "c"} {
		if seen[part] < 100 {
			t.Errorf("%q: %d", part, seen[part])
		}
	}
}

// names tells whether an IProg of a unit has the number of a prog.
func names(u api.Unit, n int) bool {
	for _, p := range u.Progs {
		for _, i := range p.Code {
			if i.Op == api.IProg && i.A == n {
				return true
			}
		}
	}
	return false
}

// takes tells whether a prog is taken in itself, behind a unit's progs.
func takes(u api.Unit, p api.Prog) bool {
	u.Progs = append(slices.Clone(u.Progs), p)
	for at := range p.Code {
		if readAlone(u, p, at) != api.OK {
			return false
		}
	}
	_, why, _ := readWays(p)
	return why == api.OK
}

// withRoom gives each list of a unit spare room, with marks in it.
func withRoom(u api.Unit) api.Unit {
	u = copied(u)
	for n := range u.Types {
		u.Types[n].Kids = room(u.Types[n].Kids, 4711)
	}
	for n := range u.Progs {
		for at := range u.Progs[n].Code {
			u.Progs[n].Code[at].List = room(u.Progs[n].Code[at].List, 4711)
		}
		u.Progs[n].Code = room(u.Progs[n].Code, api.Ins{Op: 4711})
	}
	u.Types, u.Progs = room(u.Types, api.Type{Kind: 4711}), room(u.Progs, api.Prog{Slots: 4711})
	return u
}

func room[T any](list []T, mark T) []T {
	return append(slices.Clone(list), mark, mark, mark)[:len(list)]
}

// stretched is a copy of a unit in which what stood in the room behind its lists is theirs.
func stretched(u api.Unit) api.Unit {
	u.Types, u.Progs = slices.Clone(u.Types[:cap(u.Types)]), slices.Clone(u.Progs[:cap(u.Progs)])
	for n, one := range u.Types {
		u.Types[n].Kids = one.Kids[:cap(one.Kids)]
	}
	for n, p := range u.Progs {
		u.Progs[n].Code = slices.Clone(p.Code[:cap(p.Code)])
		for at, i := range u.Progs[n].Code {
			u.Progs[n].Code[at].List = i.List[:cap(i.List)]
		}
	}
	return copied(u)
}

// TestNotChanged: R4 and R5: what is handed in stays, the room behind it too; asked again, the answer is the same.
func TestNotChanged(t *testing.T) {
	m := newMaker(6)
	for range 1500 {
		u := m.unit()
		if m.IntN(2) == 0 {
			u = m.spoilt(u)
		}
		u = withRoom(u)
		ahead := stretched(u)
		prog, at, why := Check(u)
		for n := -1; n <= len(u.Progs); n++ {
			Heights(u, n)
		}
		if !reflect.DeepEqual(stretched(u), ahead) {
			t.Fatalf("%s\nhas changed", shown(u))
		}
		if a, b, c := Check(u); a != prog || b != at || c != why {
			t.Fatalf("%s\n%d, %d, %d, then %d, %d, %d", shown(u), prog, at, why, a, b, c)
		}
	}
}

// TestNothing: R3: nil lists and empty ones are the same.
func TestNothing(t *testing.T) {
	m := newMaker(7)
	for range 500 {
		u := m.spoilt(m.unit())
		other := copied(u)
		for n := range other.Types {
			other.Types[n].Kids = append([]int{}, u.Types[n].Kids...)
		}
		for n := range other.Progs {
			other.Progs[n].Code = append([]api.Ins{}, other.Progs[n].Code...)
			for at := range other.Progs[n].Code {
				other.Progs[n].Code[at].List = append([]int{}, other.Progs[n].Code[at].List...)
			}
		}
		prog, at, why := Check(u)
		if a, b, c := Check(other); a != prog || b != at || c != why {
			t.Fatalf("%s\n%d, %d, %d, then %d, %d, %d", shown(u), prog, at, why, a, b, c)
		}
	}
}

// TestNewMemory: R4: no two answers of Heights share memory, the spare room too.
func TestNewMemory(t *testing.T) {
	m := newMaker(8)
	for range 500 {
		u := m.unit()
		var answers [][]int
		for n := range u.Progs {
			a, b := Heights(u, n), Heights(u, n)
			want := slices.Clone(b)
			answers = append(answers, a, b)
			for at := range a[:cap(a)] {
				a[:cap(a)][at] = 4711
			}
			if !slices.Equal(b, want) || !slices.Equal(Heights(u, n), want) {
				t.Fatalf("%s\nan answer shows what was written to another one", shown(u))
			}
		}
		for n, a := range answers {
			for _, b := range answers[:n] {
				if shares(a, b) {
					t.Fatalf("%s\ntwo answers share memory", shown(u))
				}
			}
		}
	}
}

func shares(a, b []int) bool {
	from := func(list []int) uintptr { return uintptr(unsafe.Pointer(unsafe.SliceData(list))) }
	to := func(list []int) uintptr { return from(list) + 8*uintptr(cap(list)) }
	return from(a) < to(b) && from(b) < to(a)
}
