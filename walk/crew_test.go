package walk_test

import (
	"math/rand/v2"
	"slices"

	"squint/api"
	"squint/kinds"
)

// crew is processes of one program, with which anything may be done.
type crew struct {
	*program
	*rand.Rand
	procs []*process
	all   []*process
	chans int
	wild  bool                // values may be of any type
	sent  map[int][]api.Value // by rows: what was sent
	seen  map[int]int         // how often pauses were come to, by their kinds
}

func newCrew(p *program, r *rand.Rand, wild bool) *crew {
	p.t.Helper()
	c := &crew{program: p, Rand: r, chans: api.Out, wild: wild, sent: map[int][]api.Value{}, seen: map[int]int{}}
	c.add(p.first(wild))
	return c
}

func (c *crew) add(x *process) {
	c.all = append(c.all, x)
	if len(c.procs) > 12 {
		c.procs[c.IntN(len(c.procs))] = x
		return
	}
	c.procs = append(c.procs, x)
}

func (c *crew) end() {
	for _, x := range c.all {
		x.end()
	}
}

// any is any value whatever.
func (c *crew) any(deep int) api.Value {
	kind := c.IntN(8)
	v := api.Value{Kind: kind, Num: []int{0, 0, 1, 2, 3, -1, len(c.l), c.IntN(len(c.l) + 2)}[c.IntN(8)]}
	if kind == api.VProg && len(c.nodes) > 0 && c.IntN(3) > 0 {
		v.Num = c.nodes[c.IntN(len(c.nodes))] + 1
		for range c.names.Free[v.Num-1] {
			v.List = append(v.List, c.any(deep-1))
		}
		return v
	}
	for range c.IntN(3) {
		if deep > 0 {
			v.List = append(v.List, c.any(deep-1))
		}
	}
	return v
}

// value is any value of a row: also one that was sent somewhere.
func (c *crew) value(row, deep int) api.Value {
	if c.wild && c.IntN(4) == 0 {
		return c.any(2)
	}
	if c.IntN(2) == 0 {
		var fit []api.Value
		for other := range c.typed.Types {
			if len(c.sent[other]) > 0 && kinds.Same(c.typed.Types, row, other) {
				fit = c.sent[other]
			}
		}
		if len(fit) > 0 {
			return fit[c.IntN(len(fit))]
		}
	}
	kind, kids := c.typed.Types[row].Kind, c.typed.Types[row].Kids
	switch kind {
	case api.KInt:
		return number(c.IntN(4) - 1)
	case api.KBool:
		return truth(c.IntN(2) == 0)
	case api.KChan:
		return channel(c.IntN(c.chans + 2))
	case api.KProg:
		return c.prog(row, deep)
	}
	out := api.Value{Kind: api.VTuple}
	if kind == api.KArray {
		out.Kind = api.VArray
		kids = slices.Repeat(kids, c.IntN(3))
		if deep <= 0 {
			kids = nil
		}
	}
	for _, kid := range kids {
		out.List = append(out.List, c.value(kid, deep-1))
	}
	return out
}

// prog is the value of a prog of a row, whatever it captured; or nil.
func (c *crew) prog(row, deep int) api.Value {
	for _, k := range c.Perm(len(c.nodes)) {
		i := c.nodes[k]
		if deep <= 0 || !kinds.Same(c.typed.Types, row, c.typed.Of[i]) || c.IntN(4) == 0 {
			continue
		}
		return c.closed(i, deep)
	}
	return api.Value{Kind: api.VProg}
}

// closed is a value of the prog of a node.
func (c *crew) closed(i, deep int) api.Value {
	out := api.Value{Kind: api.VProg, Num: i + 1}
	for _, declaration := range c.names.Free[i] {
		v := channel(c.IntN(3))
		if declaration >= 0 {
			v = c.value(c.typed.Of[declaration], deep-1)
		}
		out.List = append(out.List, v)
	}
	return out
}

// wants are the rows of what the arms of one that waits receive, or send.
func (c *crew) wants(x *process) []int {
	if x.read != nil {
		return x.read.wants
	}
	return nil
}

// fire lets an arm happen; and does what changes nothing, too.
func (c *crew) fire(x *process) {
	many := len(x.last.Arms)
	wants := c.wants(x)
	for k, arm := range x.last.Arms {
		if row := c.row(wants, k); arm.Send && len(c.sent[row]) < 20 {
			c.sent[row] = append(c.sent[row], arm.Value)
		}
	}
	x.Give(channel(3))
	x.Fire([]int{-1, many, many + 1, -many}[c.IntN(4)]-c.IntN(2)*many*9, number(7))
	if many > 0 && !x.goes {
		arm := c.IntN(many)
		v := channel(88)
		if !x.last.Arms[arm].Send {
			v = c.value(c.row(wants, arm), 2)
		}
		x.Fire(arm, v)
		x.Fire(c.IntN(many), channel(77))
	}
}

func (c *crew) row(wants []int, k int) int {
	if wants == nil {
		return c.IntN(len(c.typed.Types))
	}
	return wants[k]
}

// step does something with a process, whatever it is at.
func (c *crew) step(x *process) {
	c.t.Helper()
	if x.waits(api.PMake) {
		c.chans++
		v := channel(c.chans)
		if c.wild && c.IntN(8) == 0 {
			v = c.any(1)
		}
		x.Fire(0, number(7))
		x.Give(v)
		x.Give(channel(c.chans + 1))
	}
	if x.waits(api.PWait) {
		c.fire(x)
	}
	cells, depth := 300, 6
	if c.IntN(20) == 0 {
		cells = c.IntN(14) - 1
	}
	if c.IntN(20) == 0 {
		depth = c.IntN(5) - 1
	}
	p := x.Run(cells, depth)
	c.seen[p.Kind]++
	if p.Kind == api.PBorn {
		c.add(x.Child(p.Fn, p.Args))
	}
	if c.IntN(25) == 0 {
		y := x.Clone()
		c.add(y)
		if x.waits(api.PWait) || x.waits(api.PMake) || x.over() {
			y.Run(cells, depth)
		}
	}
}

// child begins a process with any prog, and any arguments of the right types; or with ones that do not fit.
func (c *crew) child() {
	c.t.Helper()
	x := c.procs[c.IntN(len(c.procs))]
	for _, i := range c.nodes {
		of := c.typed.Types[c.typed.Of[i]]
		params := of.Kids
		if of.Res {
			params = params[:len(params)-1]
		}
		fn := c.closed(i, 2)
		var args []api.Value
		for _, param := range params {
			args = append(args, c.value(param, 2))
		}
		c.add(x.Child(fn, args))
		switch c.IntN(6) {
		case 0:
			fn.List = append(fn.List, number(1))
		case 1:
			args = append(args, number(1))
		case 2:
			fn.Num += 1 << c.IntN(63)
		case 3:
			fn.Num = -fn.Num
		case 4:
			fn.Kind = c.IntN(6)
		case 5:
			fn.Num = c.IntN(len(c.l)) + 1
			if slices.Contains(c.nodes, fn.Num-1) {
				fn.Num = 0
			}
		}
		y := x.Child(fn, args)
		if len(y.held()) > 0 {
			y.fail("held", y.held(), nil)
		}
		if p := y.Run(9, 9); p.Kind != api.PTrap || p.Cells != 0 || (p.Code == api.TrapNil) != (fn.Kind == api.VProg && fn.Num == 0) {
			y.fail("one that does not fit", line(p), "a trap")
		}
		y.Run(9, 9)
		y.end()
	}
}

// live does so many steps of any processes.
func (c *crew) live(steps int) {
	c.t.Helper()
	for k := range steps {
		if k == steps/2 {
			c.child()
		}
		awake := slices.DeleteFunc(slices.Clone(c.procs), (*process).over)
		if len(awake) == 0 {
			break
		}
		c.step(awake[c.IntN(len(awake))])
	}
	// Whoever has ended tells its last pause again, whatever is given and fired.
	for _, x := range c.procs {
		if x.over() {
			was := x.last
			x.Fire(0, number(1))
			x.Give(number(1))
			was.Cells = 0
			if p := x.Run(9, 9); !samePause(p, was) {
				x.fail("the last pause", line(p), line(was))
			}
		}
	}
}
