package machine_test

import (
	"fmt"
	"reflect"
	"slices"
	"strconv"
	"strings"
	"testing"

	"squint/api"
	"squint/code"
	"squint/machine"
	"squint/value"
)

func number(n int) api.Value  { return api.Value{Kind: api.VInt, Num: n} }
func channel(n int) api.Value { return api.Value{Kind: api.VChan, Num: n} }
func truth(is bool) api.Value {
	if is {
		return api.Value{Kind: api.VBool, Num: 1}
	}
	return api.Value{Kind: api.VBool}
}
func array(list ...api.Value) api.Value { return api.Value{Kind: api.VArray, List: list} }
func tuple(list ...api.Value) api.Value { return api.Value{Kind: api.VTuple, List: list} }
func prog(n int, list ...api.Value) api.Value {
	return api.Value{Kind: api.VProg, Num: n, List: list}
}

// unitOf is the unit of a text whose lines are parted by commas. A line that ends with a colon names the next instruction of its prog: the name is its number, where it stands as an operand. A line "tick" is at a tick, and goes on with the next line.
func unitOf(t *testing.T, text string) api.Unit {
	t.Helper()
	var out strings.Builder
	var lines []string
	for _, one := range strings.Split(text+", prog 0 0 0 0", ",") {
		if one = strings.TrimSpace(one); len(strings.Fields(one)) == 5 && strings.HasPrefix(one, "prog ") {
			out.WriteString(numbered(lines))
			lines = nil
		}
		lines = append(lines, one)
	}
	u, line, why := code.Parse(out.String())
	if why != api.OK {
		t.Fatalf("%s: line %d", text, line)
	}
	return u
}

// numbered is the text of a prog, with numbers for names. (The prog's own line comes first.)
func numbered(lines []string) string {
	var out []string
	at := map[string]string{}
	for _, one := range lines {
		if name, ok := strings.CutSuffix(one, ":"); ok {
			at[name] = strconv.Itoa(len(out) - 1)
		} else if one == "tick" {
			here := len(out) - 1
			out = append(out, fmt.Sprint("jump ", here+2), fmt.Sprint("jump ", here+3), fmt.Sprint("back ", here+1))
		} else if one != "" {
			out = append(out, one)
		}
	}
	for k, one := range out {
		words := strings.Fields(one)
		for n, word := range words {
			if place, ok := at[word]; ok && n > 0 {
				words[n] = place
			}
		}
		out[k] = strings.Join(words, " ") + "\n"
	}
	return strings.Join(out, "")
}

func shown(u api.Unit) string {
	text, _ := code.Print(u)
	return text
}

// pair is a machine and the second reading of it, which are held against each other at whatever is done.
type pair struct {
	t    *testing.T
	u    api.Unit
	real *machine.Machine
	read *reading
	said *[]string
}

func begun(t *testing.T, u api.Unit) *machine.Machine {
	t.Helper()
	x, why := machine.New(u)
	if x == nil || why != api.OK {
		t.Fatalf("%s\nNew: %d", shown(u), why)
	}
	return x
}

func newPair(t *testing.T, u api.Unit) pair {
	t.Helper()
	lent := roomyUnit(u)
	ahead := wholeUnit(lent)
	p := pair{t, u, begun(t, lent), readNew(u), &[]string{}}
	p.kept(ahead, wholeUnit(lent))
	spoilUnit(lent)
	p.held()
	return p
}

func (p pair) fail(what string, got, want any) {
	p.t.Helper()
	p.t.Fatalf("%s\n%s\n%s: %v, not %v", shown(p.u), strings.Join(*p.said, "\n"), what, got, want)
}

// say keeps what is done, for whom something fails.
func (p pair) say(what string) {
	*p.said = append(*p.said, what)
}

// kept fails where what was handed in is not as it was.
func (p pair) kept(ahead, now any) {
	p.t.Helper()
	if !reflect.DeepEqual(ahead, now) {
		p.fail("what was handed in", now, ahead)
	}
}

// lend hands a value to a machine: with room behind its lists, which is not to be changed; and written over afterwards, which is not to be seen.
func (p pair) lend(v api.Value, to func(v api.Value)) {
	p.t.Helper()
	lent := roomy(v)
	ahead := whole(lent)
	to(lent)
	p.kept(ahead, whole(lent))
	spoil(lent.List)
}

func (p pair) held() []int {
	p.t.Helper()
	got, want := p.real.Held(), p.read.Held()
	if !slices.Equal(got, want) {
		p.fail("Held", got, want)
	}
	out := slices.Clone(got)
	got = got[:cap(got)]
	for k := range got {
		got[k] = 4711
	}
	return out
}

func samePause(a, b api.Pause) bool {
	arms := slices.EqualFunc(a.Arms, b.Arms, func(x, y api.Arm) bool {
		return x.Chan == y.Chan && x.Send == y.Send && value.Same(x.Value, y.Value)
	})
	return a.Kind == b.Kind && a.Cells == b.Cells && a.Code == b.Code && arms && value.Same(a.Fn, b.Fn) && slices.EqualFunc(a.Args, b.Args, value.Same)
}

// Run answers a copy: what was answered is written over.
func (p pair) Run(cells, depth int) api.Pause {
	p.t.Helper()
	got, want := p.real.Run(cells, depth), p.read.Run(cells, depth)
	p.say("run: " + line(want))
	if !samePause(got, want) {
		p.fail("Run", line(got), line(want))
	}
	if got.Cells < 0 || got.Cells > max(cells, 0) {
		p.fail("Cells", got.Cells, cells)
	}
	if !apart(spansOf(got)) {
		p.fail("an answer", "lists that share memory", line(got))
	}
	spoilPause(got)
	if ended := want.Kind == api.PExit || want.Kind == api.PTrap || want.Kind == api.PSpent; ended && len(p.real.Held()) > 0 {
		p.fail("held by one that has ended", p.real.Held(), nil)
	}
	p.held()
	return want
}

func (p pair) Give(v api.Value) {
	p.t.Helper()
	p.say("give " + text(v))
	p.lend(v, p.real.Give)
	p.read.Give(v)
	p.held()
}

func (p pair) Fire(arm int, v api.Value) {
	p.t.Helper()
	p.say("fire " + text(number(arm)) + " " + text(v))
	p.lend(v, func(v api.Value) { p.real.Fire(arm, v) })
	p.read.Fire(arm, v)
	p.held()
}

func (p pair) Child(fn api.Value, args []api.Value) pair {
	p.t.Helper()
	said := append(slices.Clone(*p.said), "child "+text(fn)+text(tuple(args...)))
	q := pair{p.t, p.u, nil, p.read.Child(fn, args), &said}
	p.lend(tuple(fn, tuple(args...)), func(v api.Value) { q.real = p.real.Child(v.List[0], v.List[1].List) })
	if q.real == nil {
		q.fail("Child", nil, "a machine")
	}
	q.held()
	p.held()
	return q
}

func (p pair) Clone() pair {
	p.t.Helper()
	said := append(slices.Clone(*p.said), "clone")
	q := pair{p.t, p.u, p.real.Clone(), p.read.Clone(), &said}
	q.held()
	p.held()
	return q
}

// waits tells whether it is at a pause and goes on just if it is fired or given.
func (p pair) waits(kind int) bool { return !p.read.goes && p.read.pause.Kind == kind }

func (p pair) ended() bool {
	return p.waits(api.PExit) || p.waits(api.PTrap) || p.waits(api.PSpent)
}
