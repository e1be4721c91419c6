package walk_test

import (
	"iter"
	"slices"

	"squint/api"
	"squint/value"
)

// called is a call that has not ended: its prog, the names that are in scope, and what has been worked out of what is not done yet.
type called struct {
	fn    api.Value
	names []held
	temps []api.Value
}

type held struct {
	declaration int
	v           api.Value
}

// reading goes over a tree by L5 to L9, word for word, in the plainest way: calls are calls, and each value is laid out. It is the second reading of the chapter.
type reading struct {
	l       []api.Node
	typed   api.Typed
	names   api.Names
	calls   []*called
	bad     int
	cells   int
	depth   int
	used    int
	last    api.Pause
	wants   []int // of each arm of the last wait the row of what it receives, or sends
	calling int   // of the last birth the row of the prog's type
	resumes bool
	came    []api.Value // what was received or given, till it runs on
	arm     int
	yield   func(api.Pause) bool
	next    func() (api.Pause, bool)
	stop    func()
	seen    map[int]int // how often a node of a kind was done
	first   begin       // what it began with
	done    []deed
}

// begin is a prog, and what it is called with.
type begin struct {
	fn   api.Value
	args []api.Value
}

// deed is what was done with a reading.
type deed struct {
	what, a, b int
	v          api.Value
}

const (
	didRun = iota
	didGive
	didFire
)

func newReading(l []api.Node, typed api.Typed, names api.Names) *reading {
	w := &reading{l: l, typed: typed, names: names, seen: map[int]int{}}
	// The program's own number is the node behind the last EProg's that could be.
	w.begin(begin{fn: api.Value{Kind: api.VProg, Num: len(l), List: []api.Value{channel(api.In), channel(api.Out)}}})
	return w
}

func (w *reading) begin(first begin) {
	w.first, w.resumes = first, true
	if w.bad == 0 {
		w.enter(first.fn, first.args)
	}
	w.next, w.stop = iter.Pull(func(yield func(api.Pause) bool) {
		w.yield = yield
		last := w.live()
		w.calls = nil
		yield(last)
	})
}

func (w *reading) Child(fn api.Value, args []api.Value) *reading {
	y := &reading{l: w.l, typed: w.typed, names: w.names, seen: w.seen}
	i := fn.Num - 1
	switch {
	case fn.Kind == api.VProg && fn.Num == 0:
		y.bad = api.TrapNil
	case fn.Kind != api.VProg || i < 0 || i >= len(w.l) || w.l[i].Kind != api.EProg:
		y.bad = api.TrapWrong
	case len(args) != len(w.params(i)) || len(fn.List) != len(w.names.Free[i]):
		y.bad = api.TrapWrong
	}
	y.begin(begin{fn, args})
	return y
}

// Clone does again all that was done.
func (w *reading) Clone() *reading {
	y := &reading{l: w.l, typed: w.typed, names: w.names, seen: w.seen, bad: w.bad}
	y.begin(w.first)
	for _, one := range w.done {
		switch one.what {
		case didRun:
			y.Run(one.a, one.b)
		case didGive:
			y.Give(one.v)
		case didFire:
			y.Fire(one.a, one.v)
		}
	}
	return y
}

// stopped is panicked with where a reading is given up.
type stopped struct{}

// live does the first call, and tells how it ended.
func (w *reading) live() (last api.Pause) {
	defer func() {
		switch s := recover().(type) {
		case nil:
		case stop:
			last = api.Pause(s)
			last.Cells = w.used
		case stopped:
		default:
			panic(s)
		}
	}()
	if w.bad != 0 {
		trap(w.bad)
	}
	w.body()
	return api.Pause{Kind: api.PExit, Cells: w.used}
}

// pause tells a pause, and goes on with the next Run.
func (w *reading) pause(p api.Pause) {
	p.Cells = w.used
	if !w.yield(p) {
		panic(stopped{})
	}
	w.used = 0
}

func (w *reading) Run(cells, depth int) api.Pause {
	w.done = append(w.done, deed{what: didRun, a: cells, b: depth})
	if !w.resumes {
		w.last.Cells = 0
		return w.last
	}
	w.cells, w.depth, w.resumes = cells, depth, false
	w.used = 0
	w.last, _ = w.next()
	w.resumes = w.last.Kind == api.PTick || w.last.Kind == api.PBorn
	return w.last
}

func (w *reading) Give(v api.Value) {
	w.done = append(w.done, deed{what: didGive, v: v})
	if w.last.Kind == api.PMake && !w.resumes {
		w.came, w.resumes = []api.Value{v}, true
	}
}

func (w *reading) Fire(arm int, v api.Value) {
	w.done = append(w.done, deed{what: didFire, a: arm, v: v})
	if w.last.Kind != api.PWait || w.resumes || arm < 0 || arm >= len(w.last.Arms) {
		return
	}
	w.arm, w.resumes = arm, true
	if !w.last.Arms[arm].Send {
		w.came = []api.Value{v}
	}
}

func (w *reading) Held() []int {
	var all []api.Value
	for _, c := range w.calls {
		all = append(append(all, c.temps...), c.fn.List...)
		for _, one := range c.names {
			all = append(all, one.v)
		}
	}
	if w.last.Kind == api.PWait && !w.resumes {
		for _, arm := range w.last.Arms {
			all = append(all, channel(arm.Chan), arm.Value)
		}
	}
	return value.Chans(api.Value{List: append(all, w.came...)})
}

func (w *reading) top() *called { return w.calls[len(w.calls)-1] }

func (w *reading) params(i int) []int {
	var out []int
	for _, kid := range w.l[i].Kids {
		if w.l[kid].Kind == api.NParam {
			out = append(out, kid)
		}
	}
	return out
}

// enter: the parameters have the arguments.
func (w *reading) enter(fn api.Value, args []api.Value) {
	c := &called{fn: fn}
	for k, param := range w.params(fn.Num - 1) {
		c.names = append(c.names, held{param, args[k]})
	}
	w.calls = append(w.calls, c)
}

// body does the statements of the last call's prog; then that call has ended.
func (w *reading) body() api.Value {
	i := w.top().fn.Num - 1
	statements := w.l[i].Kids[w.l[i].Num:]
	if w.l[i].Kind == api.EProg {
		statements = w.l[w.l[i].Kids[len(w.l[i].Kids)-1]].Kids
	}
	v, _ := w.statements(statements)
	w.calls = w.calls[:len(w.calls)-1]
	return v
}

func (w *reading) use(v api.Value) api.Value {
	size := value.Size(v, 1<<30)
	if w.used+size > w.cells {
		panic(stop{Kind: api.PSpent, Code: api.SpentCells})
	}
	w.used += size
	return v
}

// hold works expressions out, one behind the other; each is held while the next ones are.
func (w *reading) hold(nodes []int) {
	for _, i := range nodes {
		v := w.expr(i)
		w.top().temps = append(w.top().temps, v)
	}
}

// drop tells the last so many of what is held, which is held no longer.
func (w *reading) drop(many int) []api.Value {
	c := w.top()
	first := len(c.temps) - many
	out := slices.Clone(c.temps[first:])
	c.temps = c.temps[:first]
	return out
}

// all works expressions out, and tells their values.
func (w *reading) all(nodes []int) []api.Value {
	w.hold(nodes)
	return w.drop(len(nodes))
}

func (w *reading) expr(i int) api.Value {
	n := w.l[i]
	w.seen[n.Kind]++
	switch n.Kind {
	case api.EInt:
		return number(n.Num)
	case api.EBool:
		return truth(n.Num == 1)
	case api.EName:
		return w.name(w.names.Ref[i])
	case api.EParen:
		return w.expr(n.Kids[0])
	case api.ETuple:
		return w.use(api.Value{Kind: api.VTuple, List: w.all(n.Kids)})
	case api.EArray:
		return w.use(api.Value{Kind: api.VArray, List: w.all(n.Kids)})
	case api.EFill:
		return w.fill(w.all(n.Kids))
	case api.ELen:
		return number(len(w.expr(n.Kids[0]).List))
	case api.EMake:
		w.pause(api.Pause{Kind: api.PMake})
		return w.taken()
	case api.EProg:
		var captured []api.Value
		for _, declaration := range w.names.Free[i] {
			captured = append(captured, w.name(declaration))
		}
		return w.use(api.Value{Kind: api.VProg, Num: i + 1, List: captured})
	case api.EUnary:
		return w.unary(n)
	case api.EBin:
		return w.binary(n)
	case api.ECall:
		parts := w.all(n.Kids)
		return w.call(parts[0], parts[1:])
	case api.EIndex:
		parts := w.all(n.Kids)
		if at := parts[1].Num; at < 0 || at >= len(parts[0].List) {
			trap(api.TrapIndex)
		}
		return parts[0].List[parts[1].Num]
	case api.EField:
		return w.expr(n.Kids[0]).List[n.Num]
	}
	panic("no expression")
}

// taken is what came, which is the process's own from here on.
func (w *reading) taken() api.Value {
	v := w.came[0]
	w.came = nil
	return v
}

// name is the value of what a name means.
func (w *reading) name(declaration int) api.Value {
	c := w.top()
	for _, one := range c.names {
		if one.declaration == declaration {
			return one.v
		}
	}
	if declaration == c.fn.Num-1 {
		return c.fn
	}
	if c.fn.Num == len(w.l) {
		return c.fn.List[-2-declaration]
	}
	return c.fn.List[slices.Index(w.names.Free[c.fn.Num-1], declaration)]
}

func (w *reading) fill(parts []api.Value) api.Value {
	n := parts[0].Num
	if n < 0 {
		trap(api.TrapFill)
	}
	if n > w.cells {
		panic(stop{Kind: api.PSpent, Code: api.SpentCells})
	}
	return w.use(api.Value{Kind: api.VArray, List: slices.Repeat(parts[1:], n)})
}

func (w *reading) unary(n api.Node) api.Value {
	v := w.expr(n.Kids[0])
	switch n.Num {
	case api.OpNeg:
		return number(-v.Num)
	case api.OpNot:
		return truth(v.Num == 0)
	}
	w.wait([]api.Arm{{Chan: v.Num}}, []int{w.element(n.Kids[0])})
	return w.taken()
}

// element is the row of what goes over a channel.
func (w *reading) element(i int) int { return w.typed.Types[w.typed.Of[i]].Kids[0] }

func (w *reading) wait(arms []api.Arm, rows []int) {
	w.wants = rows
	w.pause(api.Pause{Kind: api.PWait, Arms: arms})
}

func (w *reading) binary(n api.Node) api.Value {
	if n.Num == api.OpAnd || n.Num == api.OpOr {
		left := w.expr(n.Kids[0])
		if (left.Num == 1) == (n.Num == api.OpOr) {
			return left
		}
		return w.expr(n.Kids[1])
	}
	parts := w.all(n.Kids)
	a, b := parts[0].Num, parts[1].Num
	if b == 0 && (n.Num == api.OpDiv || n.Num == api.OpMod) {
		trap(api.TrapDivide)
	}
	switch n.Num {
	case api.OpAdd:
		return number(a + b)
	case api.OpSub:
		return number(a - b)
	case api.OpMul:
		return number(a * b)
	case api.OpDiv:
		return number(a / b)
	case api.OpMod:
		return number(a % b)
	case api.OpEq:
		return truth(a == b)
	case api.OpNe:
		return truth(a != b)
	case api.OpLt:
		return truth(a < b)
	case api.OpLe:
		return truth(a <= b)
	case api.OpGt:
		return truth(a > b)
	}
	return truth(a >= b)
}

func (w *reading) call(fn api.Value, args []api.Value) api.Value {
	if fn.Num == 0 {
		trap(api.TrapNil)
	}
	if len(w.calls) >= w.depth {
		panic(stop{Kind: api.PSpent, Code: api.SpentDepth})
	}
	w.enter(fn, args)
	w.pause(api.Pause{Kind: api.PTick})
	return w.body()
}

// statements does them, and tells whether a return was come to, and with what.
func (w *reading) statements(nodes []int) (api.Value, bool) {
	for _, i := range nodes {
		if v, done := w.statement(i); done {
			return v, true
		}
	}
	return api.Value{}, false
}

// block does statements, behind whose end their names are out of scope.
func (w *reading) block(nodes []int, first ...held) (api.Value, bool) {
	c := w.top()
	outer := len(c.names)
	c.names = append(c.names, first...)
	v, done := w.statements(nodes)
	if !done {
		c.names = c.names[:outer]
	}
	return v, done
}

func (w *reading) declare(i int, v api.Value) {
	c := w.top()
	c.names = append(c.names, held{i, v})
}

func (w *reading) statement(i int) (api.Value, bool) {
	n := w.l[i]
	w.seen[n.Kind]++
	switch n.Kind {
	case api.SVal:
		w.declare(i, w.expr(n.Kids[0]))
	case api.SVar:
		if len(n.Kids) == 2 {
			w.declare(i, w.expr(n.Kids[1]))
			break
		}
		v, _ := value.Zero(w.typed.Types, w.typed.Of[n.Kids[0]], 1<<30)
		w.declare(i, w.use(v))
	case api.SSet:
		w.set(n)
	case api.SSend:
		parts := w.all(n.Kids)
		w.wait([]api.Arm{{Chan: parts[0].Num, Send: true, Value: parts[1]}}, []int{w.element(n.Kids[0])})
	case api.SDo:
		w.expr(n.Kids[0])
	case api.SIf:
		if w.expr(n.Kids[0]).Num == 1 {
			return w.statement(n.Kids[1])
		}
		return w.statements(n.Kids[2:])
	case api.SWhile:
		for w.expr(n.Kids[0]).Num == 1 {
			if v, done := w.statement(n.Kids[1]); done {
				return v, true
			}
			w.pause(api.Pause{Kind: api.PTick})
		}
	case api.SReturn:
		if len(n.Kids) == 0 {
			return api.Value{}, true
		}
		return w.expr(n.Kids[0]), true
	case api.SBegin:
		w.birth(n.Kids[0])
	case api.SSelect:
		return w.choose(n)
	case api.SBlock:
		return w.block(n.Kids)
	default:
		panic("no statement")
	}
	return api.Value{}, false
}

func (w *reading) birth(i int) {
	for w.l[i].Kind == api.EParen {
		i = w.l[i].Kids[0]
	}
	parts := w.all(w.l[i].Kids)
	if parts[0].Num == 0 {
		trap(api.TrapNil)
	}
	w.calling = w.typed.Of[w.l[i].Kids[0]]
	w.pause(api.Pause{Kind: api.PBorn, Fn: parts[0], Args: parts[1:]})
}

// set: the indices, what the place gets, and then whether the place is there.
func (w *reading) set(n api.Node) {
	var steps []int // from the name on
	i := n.Kids[0]
	for w.l[i].Kind != api.EName {
		steps = append(steps, i)
		i = w.l[i].Kids[0]
	}
	slices.Reverse(steps)
	var indices []int
	for _, step := range steps {
		if w.l[step].Kind == api.EIndex {
			indices = append(indices, w.l[step].Kids[1])
		}
	}
	w.hold(indices)
	v := w.expr(n.Kids[1])
	found := w.drop(len(indices))
	c := w.top()
	k := slices.IndexFunc(c.names, func(one held) bool { return one.declaration == w.names.Ref[i] })
	if len(steps) == 0 {
		c.names[k].v = v
		return
	}
	at := c.names[k].v
	var path []int
	for _, step := range steps {
		part := w.l[step].Num
		if w.l[step].Kind == api.EIndex {
			part, found = found[0].Num, found[1:]
		}
		if part < 0 || part >= len(at.List) {
			trap(api.TrapIndex)
		}
		path, at = append(path, part), at.List[part]
	}
	whole, _ := value.With(c.names[k].v, path, v)
	c.names[k].v = w.use(whole)
}

func (w *reading) choose(n api.Node) (api.Value, bool) {
	many := 0
	var rows []int
	for _, arm := range n.Kids {
		kids := w.l[arm].Kids
		w.seen[w.l[arm].Kind]++
		w.hold(kids[:len(kids)-1])
		many += len(kids) - 1
		rows = append(rows, w.element(kids[0]))
	}
	parts := w.drop(many)
	var arms []api.Arm
	for _, arm := range n.Kids {
		one := api.Arm{Chan: parts[0].Num}
		parts = parts[1:]
		if w.l[arm].Kind == api.NSend {
			one.Send, one.Value = true, parts[0]
			parts = parts[1:]
		}
		arms = append(arms, one)
	}
	w.wait(arms, rows)
	i := n.Kids[w.arm]
	kids := w.l[i].Kids
	statements := w.l[kids[len(kids)-1]].Kids
	if w.l[i].Kind == api.NSend {
		return w.block(statements)
	}
	v := w.taken()
	if w.l[i].Name == "" {
		return w.block(statements)
	}
	return w.block(statements, held{i, v})
}
