package build_test

import (
	"maps"
	"math/rand/v2"
	"slices"
	"testing"

	"squint/api"
	"squint/build"
	"squint/check"
	"squint/code"
	"squint/kinds"
	"squint/parse"
	"squint/tree"
	"squint/verify"
)

func parsed(t *testing.T, src string) []api.Node {
	t.Helper()
	l, f := parse.Parse([]byte(src), api.MaxNest)
	if f.Code != api.OK {
		t.Fatalf("%.300q: parse's fault %v", src, f)
	}
	return l
}

// built is the unit of a tree of which nothing is wrong; verify takes it.
func built(t *testing.T, l []api.Node) api.Unit {
	t.Helper()
	u, f := build.Build(l)
	if f != (api.Fault{}) {
		t.Fatalf("%s: the fault %v", shown(l), f)
	}
	if prog, at, why := verify.Check(u); why != api.OK {
		t.Fatalf("%s: verify's fault %d, %d, %d", shown(l), prog, at, why)
	}
	return u
}

func shown(l []api.Node) string {
	if len(l) > 2000 {
		return "a long program"
	}
	text, _ := tree.Print(l)
	return text
}

// both is one value as the unit's runner has it, and as the walker has it.
type both struct{ unit, tree api.Value }

// couple is one process, run by a unit and by a walk over the tree.
type couple struct {
	*runner
	*walker
}

// crew runs processes of one program both ways, and fails where they do not go alike.
type crew struct {
	t     *testing.T
	l     []api.Node
	u     api.Unit
	typed api.Typed
	names api.Names
	*rand.Rand
	procs []*couple
	chans int
	pool  map[int][]both // by rows: what was sent
	progs map[int]int    // of the unit's progs which node each is
	seen  map[int]int    // how often pauses were come to, by their kinds
	walks []*walker
}

func newCrew(t *testing.T, l []api.Node, r *rand.Rand) *crew {
	t.Helper()
	typed, names, f := check.Check(l)
	if f.Code != api.OK {
		t.Fatalf("%s: check's fault %v", shown(l), f)
	}
	c := &crew{t: t, l: l, u: built(t, l), typed: typed, names: names, Rand: r, chans: api.Out, pool: map[int][]both{}, progs: map[int]int{}, seen: map[int]int{}}
	c.add(newRunner(c.u), newWalker(l, typed, names))
	return c
}

func (c *crew) add(x *runner, w *walker) *couple {
	one := &couple{x, w}
	c.procs = append(c.procs, one)
	c.walks = append(c.walks, w)
	c.wantHeld(one)
	return one
}

// end lets go of the walkers.
func (c *crew) end() {
	for _, w := range c.walks {
		w.stop()
	}
}

func (c *crew) fail(why string, a, b any) {
	c.t.Helper()
	text, _ := code.Print(c.u)
	c.t.Fatalf("%s\n%s: the unit %v, the tree %v\n%s", shown(c.l), why, a, b, text)
}

func (c *crew) wantHeld(one *couple) {
	c.t.Helper()
	if a, b := one.runner.Held(), one.walker.Held(); !slices.Equal(a, b) {
		c.fail("held", a, b)
	}
}

// alike holds values against each other: of progs the numbers may be unlike, but one of the unit is one of the tree.
func (c *crew) alike(a, b api.Value) bool {
	if a.Kind == api.VProg && a.Num > 0 && b.Num > 0 {
		if node, ok := c.progs[a.Num]; ok && node != b.Num {
			return false
		}
		c.progs[a.Num] = b.Num
		b.Num = a.Num
	}
	return a.Kind == b.Kind && a.Num == b.Num && slices.EqualFunc(a.List, b.List, c.alike)
}

func (c *crew) wantAlike(a, b api.Pause) {
	c.t.Helper()
	arms := slices.EqualFunc(a.Arms, b.Arms, func(x, y api.Arm) bool {
		return x.Chan == y.Chan && x.Send == y.Send && c.alike(x.Value, y.Value)
	})
	if a.Kind != b.Kind || a.Cells != b.Cells || a.Code != b.Code || !arms || !c.alike(a.Fn, b.Fn) || !slices.EqualFunc(a.Args, b.Args, c.alike) {
		c.fail("a pause", a, b)
	}
}

// run lets a process run both ways, to the next pause. What is born then runs too, later.
func (c *crew) run(one *couple, cells, depth int) api.Pause {
	c.t.Helper()
	a, b := one.runner.Run(cells, depth), one.walker.Run(cells, depth)
	c.wantAlike(a, b)
	c.wantHeld(one)
	c.seen[a.Kind]++
	if a.Kind == api.PTrap && a.Code == api.TrapWrong {
		c.fail("a value of another kind", a, b)
	}
	if a.Kind == api.PBorn {
		c.add(one.runner.Child(a.Fn, a.Args).(*runner), one.walker.Child(b.Fn, b.Args).(*walker))
	}
	return a
}

func (c *crew) give(one *couple, v api.Value) {
	c.t.Helper()
	one.runner.Give(v)
	one.walker.Give(v)
	c.wantHeld(one)
}

func (c *crew) fire(one *couple, arm int, v both) {
	c.t.Helper()
	one.runner.Fire(arm, v.unit)
	one.walker.Fire(arm, v.tree)
	c.wantHeld(one)
}

// value is any value of a row: also one that was sent somewhere.
func (c *crew) value(row, deep int) both {
	if c.IntN(2) == 0 {
		var fit []both
		for other, values := range c.pool {
			if kinds.Same(c.typed.Types, row, other) {
				fit = values
			}
		}
		if len(fit) > 0 {
			return fit[c.IntN(len(fit))]
		}
	}
	kind := c.typed.Types[row].Kind
	kids := c.typed.Types[row].Kids
	switch kind {
	case api.KInt:
		v := number(c.IntN(4) - 1)
		return both{v, v}
	case api.KBool:
		v := truth(c.IntN(2) == 0)
		return both{v, v}
	case api.KChan:
		v := channel(c.IntN(c.chans + 2))
		return both{v, v}
	case api.KProg:
		return c.prog(row, deep)
	}
	out := both{api.Value{Kind: api.VTuple}, api.Value{Kind: api.VTuple}}
	if kind == api.KArray {
		out = both{api.Value{Kind: api.VArray}, api.Value{Kind: api.VArray}}
		kids = slices.Repeat(kids, c.IntN(3))
		if deep <= 0 {
			kids = nil
		}
	}
	for _, kid := range kids {
		part := c.value(kid, deep-1)
		out.unit.List, out.tree.List = append(out.unit.List, part.unit), append(out.tree.List, part.tree)
	}
	return out
}

// prog is the value of a prog of a row that was met already, whatever it captured; or nil.
func (c *crew) prog(row, deep int) both {
	out := both{api.Value{Kind: api.VProg}, api.Value{Kind: api.VProg}}
	for _, num := range slices.Sorted(maps.Keys(c.progs)) {
		i := c.progs[num] - 1
		if deep <= 0 || !kinds.Same(c.typed.Types, row, c.typed.Of[i]) || c.IntN(3) == 0 {
			continue
		}
		out.unit.Num, out.tree.Num = num, i+1
		for _, declaration := range c.names.Free[i] {
			v := both{channel(api.In), channel(api.In)}
			if declaration >= 0 {
				v = c.value(c.typed.Of[declaration], deep-1)
			}
			out.unit.List, out.tree.List = append(out.unit.List, v.unit), append(out.tree.List, v.tree)
		}
		break
	}
	return out
}

// keep: values that are sent, or called, may be received later by whoever wants one of their type.
func (c *crew) keep(row int, v both) {
	for other := range c.pool {
		if kinds.Same(c.typed.Types, row, other) {
			row = other
		}
	}
	if len(c.pool[row]) < 20 {
		c.pool[row] = append(c.pool[row], v)
	}
}

// step does something with a process: whatever it is at.
func (c *crew) step(one *couple) {
	c.t.Helper()
	last := one.runner.pause
	other := one.walker.last
	if !one.runner.resumes && last.Kind == api.PMake {
		c.chans++
		c.fire(one, 0, both{number(7), number(7)})
		c.give(one, channel(c.chans))
		c.give(one, channel(c.chans+1))
	}
	if !one.runner.resumes && last.Kind == api.PWait {
		for k, arm := range last.Arms {
			if arm.Send {
				c.keep(one.wants[k], both{arm.Value, other.Arms[k].Value})
			}
		}
		c.give(one, channel(3))
		c.fire(one, []int{-1, len(last.Arms)}[c.IntN(2)], both{number(7), number(7)})
		if many := len(last.Arms); many > 0 {
			arm := c.IntN(many)
			c.fire(one, arm, c.value(one.wants[arm], 2))
			c.fire(one, c.IntN(many), both{number(7), number(7)})
		}
	}
	cells, depth := 300, 6
	if c.IntN(20) == 0 {
		cells = c.IntN(12)
	}
	if c.IntN(20) == 0 {
		depth = c.IntN(4)
	}
	a := c.run(one, cells, depth)
	if a.Kind == api.PBorn {
		c.keep(one.calling, both{a.Fn, one.walker.last.Fn})
	}
}

// child begins a process with any prog that was met, and any arguments.
func (c *crew) child() {
	c.t.Helper()
	for _, num := range slices.Sorted(maps.Keys(c.progs)) {
		row := c.typed.Of[c.progs[num]-1]
		fn := c.prog(row, 2)
		of := c.typed.Types[row]
		params := of.Kids
		if of.Res {
			params = params[:len(params)-1]
		}
		var args, others []api.Value
		for _, param := range params {
			v := c.value(param, 2)
			args, others = append(args, v.unit), append(others, v.tree)
		}
		one := c.procs[c.IntN(len(c.procs))]
		c.add(one.runner.Child(fn.unit, args).(*runner), one.walker.Child(fn.tree, others).(*walker))
	}
}

// hasEnded tells whether a process never goes on, whatever is done.
func hasEnded(one *couple) bool {
	p := one.runner.pause
	return p.Kind == api.PExit || p.Kind == api.PTrap || p.Kind == api.PSpent || p.Kind == api.PWait && len(p.Arms) == 0
}

// live does so many steps of any processes.
func (c *crew) live(steps int) {
	c.t.Helper()
	for k := range steps {
		if k == steps/2 {
			c.child()
		}
		awake := slices.DeleteFunc(slices.Clone(c.procs), hasEnded)
		if len(awake) == 0 {
			break
		}
		c.step(awake[c.IntN(len(awake))])
	}
	// Whoever has ended tells its last pause again.
	for _, one := range c.procs {
		if hasEnded(one) {
			c.run(one, 9, 9)
		}
	}
}
