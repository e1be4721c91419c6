package walk_test

import (
	"reflect"
	"slices"
	"strings"
	"testing"

	"squint/api"
	"squint/build"
	"squint/check"
	"squint/machine"
	"squint/parse"
	"squint/tree"
	"squint/value"
	"squint/walk"
)

func number(n int) api.Value  { return api.Value{Kind: api.VInt, Num: n} }
func channel(n int) api.Value { return api.Value{Kind: api.VChan, Num: n} }
func truth(is bool) api.Value {
	if is {
		return api.Value{Kind: api.VBool, Num: 1}
	}
	return api.Value{Kind: api.VBool}
}
func array(list ...api.Value) api.Value { return api.Value{Kind: api.VArray, List: list} }
func tuple(list ...api.Value) api.Value { return api.Value{Kind: api.VTuple, List: list} }
func prog(n int, list ...api.Value) api.Value {
	return api.Value{Kind: api.VProg, Num: n, List: list}
}

func parsed(t *testing.T, src string) []api.Node {
	t.Helper()
	l, f := parse.Parse([]byte(src), api.MaxNest)
	if f.Code != api.OK {
		t.Fatalf("%.300q: parse's fault %v", src, f)
	}
	return l
}

func shown(l []api.Node) string {
	if len(l) > 2000 {
		return "a long program"
	}
	text, _ := tree.Print(l)
	return text
}

// stop is panicked with where a reading ends.
type stop api.Pause

func trap(code int) { panic(stop{Kind: api.PTrap, Code: code}) }

// program is one of which nothing is wrong.
type program struct {
	t     *testing.T
	l     []api.Node
	typed api.Typed
	names api.Names
	nodes []int // of the EProgs, in their order: the unit's progs, behind the program's own
}

func newProgram(t *testing.T, l []api.Node) *program {
	t.Helper()
	typed, names, f := check.Check(l)
	if f.Code != api.OK {
		t.Fatalf("%s: check's fault %v", shown(l), f)
	}
	p := &program{t: t, l: l, typed: typed, names: names}
	for k, n := range l {
		if n.Kind == api.EProg {
			p.nodes = append(p.nodes, k)
		}
	}
	return p
}

// ofUnit is a value of a walk as a machine has it: progs have other numbers.
func (p *program) ofUnit(v api.Value) api.Value {
	if v.Kind == api.VProg && v.Num > 0 {
		if k := slices.Index(p.nodes, v.Num-1); k >= 0 {
			v.Num = k + 2
		} else {
			v.Num += 1 << 40
		}
	}
	v.List = p.allOfUnit(v.List)
	return v
}

func (p *program) allOfUnit(list []api.Value) []api.Value {
	var out []api.Value
	for _, one := range list {
		out = append(out, p.ofUnit(one))
	}
	return out
}

func (p *program) pauseOfUnit(one api.Pause) api.Pause {
	one.Fn, one.Args = p.ofUnit(one.Fn), p.allOfUnit(one.Args)
	one.Arms = slices.Clone(one.Arms)
	for k, arm := range one.Arms {
		one.Arms[k].Value = p.ofUnit(arm.Value)
	}
	return one
}

// process is one walk, the machine that does the same, and the second reading; all are held against each other at whatever is done.
// Where values may be of any type there is no reading.
type process struct {
	*program
	real  *walk.Walker
	unit  *machine.Machine
	read  *reading
	last  api.Pause
	goes  bool // whether it goes on at the next Run
	said  *[]string
	began api.Value // the prog that it began with; none of the first one
}

// first is the first process of a program. What is handed to New is written over afterwards.
func (p *program) first(wild bool) *process {
	p.t.Helper()
	lent := roomyNodes(p.l)
	ahead := wholeNodes(lent)
	x, f := walk.New(lent)
	if x == nil || f != (api.Fault{}) {
		p.t.Fatalf("%s\nNew: %v", shown(p.l), f)
	}
	u, f := build.Build(p.l)
	m, why := machine.New(u)
	if f != (api.Fault{}) || why != api.OK {
		p.t.Fatalf("%s\nthe unit: %v, %d", shown(p.l), f, why)
	}
	out := &process{program: p, real: x, unit: m, goes: true, said: &[]string{}}
	if !wild {
		out.read = newReading(p.l, p.typed, p.names)
	}
	out.same("what was handed in", wholeNodes(lent), ahead)
	spoilNodes(lent)
	out.held()
	return out
}

// end lets go of the reading.
func (x *process) end() {
	if x.read != nil {
		x.read.stop()
	}
}

func (x *process) fail(what string, got, want any) {
	x.t.Helper()
	x.t.Fatalf("%s\n%s\n%s: %v, not %v", shown(x.l), strings.Join(*x.said, "\n"), what, got, want)
}

func (x *process) same(what string, got, want any) {
	x.t.Helper()
	if !reflect.DeepEqual(got, want) {
		x.fail(what, got, want)
	}
}

func (x *process) say(what string) { *x.said = append(*x.said, what) }

// lend hands values over: with room behind their lists, which is not to be changed; and written over afterwards, which is not to be seen.
func (x *process) lend(v api.Value, to func(v api.Value)) {
	x.t.Helper()
	lent := roomy(v)
	ahead := whole(lent)
	to(lent)
	x.same("what was handed in", whole(lent), ahead)
	spoil(lent.List)
}

// held is what all of them hold. What was answered is written over.
func (x *process) held() []int {
	x.t.Helper()
	got, want := x.real.Held(), x.unit.Held()
	if !slices.Equal(got, want) {
		x.fail("Held", got, want)
	}
	if x.read != nil && !slices.Equal(got, x.read.Held()) {
		x.fail("Held", got, x.read.Held())
	}
	got = got[:cap(got)]
	for k := range got {
		got[k] = 4711
	}
	return want
}

func samePause(a, b api.Pause) bool {
	arms := slices.EqualFunc(a.Arms, b.Arms, func(x, y api.Arm) bool {
		return x.Chan == y.Chan && x.Send == y.Send && value.Same(x.Value, y.Value)
	})
	return a.Kind == b.Kind && a.Cells == b.Cells && a.Code == b.Code && arms && value.Same(a.Fn, b.Fn) && slices.EqualFunc(a.Args, b.Args, value.Same)
}

// copied is a pause in memory of its own.
func copied(p api.Pause) api.Pause {
	p.Fn = whole(api.Value{Kind: p.Fn.Kind, Num: p.Fn.Num, List: slices.Clip(p.Fn.List)})
	p.Args = whole(api.Value{List: slices.Clip(p.Args)}).List
	p.Arms = slices.Clone(p.Arms)
	for k, arm := range p.Arms {
		p.Arms[k].Value = whole(arm.Value)
	}
	return p
}

// Run answers a copy: what was answered is written over.
func (x *process) Run(cells, depth int) api.Pause {
	x.t.Helper()
	got, other := x.real.Run(cells, depth), x.unit.Run(cells, depth)
	x.say("run: " + line(got))
	if !samePause(x.pauseOfUnit(got), other) {
		x.fail("Run", line(x.pauseOfUnit(got)), "the machine's "+line(other))
	}
	if x.read != nil {
		if want := x.read.Run(cells, depth); !samePause(got, want) {
			x.fail("Run", line(got), line(want))
		}
		if got.Code == api.TrapWrong && got.Kind == api.PTrap && x.read.bad == 0 {
			x.fail("a value of another kind", line(got), "none")
		}
	}
	if got.Cells < 0 || got.Cells > max(cells, 0) {
		x.fail("Cells", got.Cells, cells)
	}
	if !apart(spansOf(got)) {
		x.fail("an answer", "lists that share memory", line(got))
	}
	x.last = copied(got)
	x.goes = got.Kind == api.PTick || got.Kind == api.PBorn
	spoilPause(got)
	if held := x.held(); x.ended() && len(held) > 0 {
		x.fail("held by one that has ended", held, nil)
	}
	return x.last
}

func (x *process) Give(v api.Value) {
	x.t.Helper()
	x.say("give " + text(v))
	x.lend(v, x.real.Give)
	x.unit.Give(x.ofUnit(v))
	if x.read != nil {
		x.read.Give(v)
	}
	x.goes = x.goes || x.last.Kind == api.PMake
	x.held()
}

func (x *process) Fire(arm int, v api.Value) {
	x.t.Helper()
	x.say("fire " + text(number(arm)) + " " + text(v))
	x.lend(v, func(v api.Value) { x.real.Fire(arm, v) })
	x.unit.Fire(arm, x.ofUnit(v))
	if x.read != nil {
		x.read.Fire(arm, v)
	}
	x.goes = x.goes || x.last.Kind == api.PWait && arm >= 0 && arm < len(x.last.Arms)
	x.held()
}

func (x *process) Child(fn api.Value, args []api.Value) *process {
	x.t.Helper()
	said := append(slices.Clone(*x.said), "child "+text(fn)+text(tuple(args...)))
	y := &process{program: x.program, goes: true, said: &said, began: fn}
	x.lend(tuple(fn, tuple(args...)), func(v api.Value) { y.real = x.real.Child(v.List[0], v.List[1].List) })
	y.unit = x.unit.Child(x.ofUnit(fn), x.allOfUnit(args))
	if x.read != nil {
		y.read = x.read.Child(fn, args)
	}
	if y.real == nil {
		y.fail("Child", nil, "a walker")
	}
	y.held()
	x.held()
	return y
}

func (x *process) Clone() *process {
	x.t.Helper()
	said := append(slices.Clone(*x.said), "clone")
	y := &process{program: x.program, real: x.real.Clone(), unit: x.unit.Clone(), last: x.last, goes: x.goes, said: &said, began: x.began}
	if x.read != nil {
		y.read = x.read.Clone()
	}
	y.held()
	x.held()
	return y
}

// waits tells whether it is at a pause and goes on just if it is fired or given.
func (x *process) waits(kind int) bool { return !x.goes && x.last.Kind == kind }

func (x *process) ended() bool {
	return x.waits(api.PExit) || x.waits(api.PTrap) || x.waits(api.PSpent)
}

// over tells whether it never goes on, whatever is done.
func (x *process) over() bool { return x.ended() || x.waits(api.PWait) && len(x.last.Arms) == 0 }
