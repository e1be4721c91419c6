package machine_test

import (
	"math"
	"slices"
	"testing"

	"squint/api"
	"squint/build"
	"squint/parse"
	"squint/verify"
)

// drive lets the processes of a unit do anything, each held against the second reading of it.
type drive struct {
	maker
	*testing.T
	procs []pair
	chans int
	pool  []api.Value
	kinds [8]int // how often a pause was come to
	codes map[[2]int]int
	done  [api.Ops + 1]int // likewise an operation was done
}

func newDrive(t *testing.T, m maker) *drive {
	return &drive{maker: m, T: t, codes: map[[2]int]int{}}
}

func (d *drive) keep(v api.Value) {
	if len(d.pool) < 30 {
		d.pool = append(d.pool, v)
	}
}

// limits are mostly such that a process goes on.
func (d *drive) limits() (int, int) {
	cells, depth := 400, 6
	if d.IntN(12) == 0 {
		cells = pick(d.maker, math.MinInt, -1, 0, 1, 2, d.IntN(20), 5000)
	}
	if d.IntN(12) == 0 {
		depth = pick(d.maker, math.MinInt, -1, 0, 1, 2, 3, math.MaxInt)
	}
	return cells, depth
}

// fitting is a value with which a process that waits, once it is fired, does not at once end by a trap; or any, if none is found.
func (d *drive) fitting(p pair, arm int) api.Value {
	if d.IntN(10) == 0 {
		return d.value(0, 2)
	}
	var v api.Value
	for range 8 {
		v = d.value(d.someKind(), 2)
		if len(d.pool) > 0 && d.IntN(3) == 0 {
			v = pick(d.maker, d.pool...)
		}
		try := p.read.Clone()
		try.Fire(arm, v)
		if end := try.Run(400, 9); end.Kind != api.PTrap {
			break
		}
	}
	return v
}

func (d *drive) step(p pair) {
	switch {
	case p.waits(api.PMake):
		d.noise(p)
		p.Fire(0, d.value(0, 1))
		d.chans++
		v := channel(d.chans)
		if d.IntN(15) == 0 {
			v = d.value(0, 2)
		}
		p.Give(v)
		p.Give(channel(77))
	case p.waits(api.PWait):
		d.noise(p)
		p.Give(d.value(0, 1))
		many := len(p.read.pause.Arms)
		for _, arm := range p.read.pause.Arms {
			d.keep(arm.Value)
		}
		p.Fire(pick(d.maker, -1, many, math.MinInt, math.MaxInt), d.value(0, 1))
		if many > 0 {
			arm := d.IntN(many)
			p.Fire(arm, d.fitting(p, arm))
			p.Fire(d.IntN(many), d.value(0, 1))
		}
	}
	cells, depth := d.limits()
	d.run(p, cells, depth)
}

// noise is what changes nothing.
func (d *drive) noise(p pair) {
	if d.IntN(3) == 0 {
		d.run(p, d.IntN(9), d.IntN(3))
	}
	if d.IntN(3) == 0 {
		p.Clone()
	}
}

func (d *drive) run(p pair, cells, depth int) {
	d.Helper()
	last := p.Run(cells, depth)
	d.kinds[last.Kind]++
	if last.Code != 0 {
		d.codes[[2]int{last.Kind, last.Code}]++
	}
	if last.Kind == api.PBorn {
		d.keep(last.Fn)
		for _, arg := range last.Args {
			d.keep(arg)
		}
		d.procs = append(d.procs, p.Child(last.Fn, last.Args))
	}
	if d.IntN(30) == 0 {
		d.procs = append(d.procs, p.Clone())
	}
}

// child begins with any prog and any arguments.
func (d *drive) child(p pair) {
	n := d.IntN(len(p.u.Progs) + 2)
	fn := prog(n)
	var args []api.Value
	if n > 0 && n <= len(p.u.Progs) {
		for range p.u.Progs[n-1].Caps {
			fn.List = append(fn.List, d.value(0, 2))
		}
		for range p.u.Progs[n-1].Params {
			args = append(args, d.value(0, 2))
		}
	}
	switch d.IntN(8) {
	case 0:
		fn = d.value(0, 2)
	case 1:
		args = append(args, number(1))
	case 2:
		fn.List = append(fn.List, channel(3))
	}
	d.procs = append(d.procs, p.Child(fn, args))
}

// live does so many steps with a unit's processes.
func (d *drive) live(u api.Unit, steps int) {
	d.Helper()
	d.procs, d.chans, d.pool = []pair{newPair(d.T, u)}, api.Out, nil
	for range steps {
		awake := slices.DeleteFunc(slices.Clone(d.procs), func(p pair) bool { return p.ended() || p.waits(api.PWait) && len(p.read.pause.Arms) == 0 })
		if d.IntN(12) == 0 {
			d.child(pick(d.maker, d.procs...))
		}
		if len(awake) == 0 {
			continue
		}
		d.step(pick(d.maker, awake...))
	}
	for _, p := range d.procs {
		d.run(p, 9, 9)
		p.Give(channel(5))
		p.Fire(0, number(5))
	}
	for op, many := range d.procs[0].read.done {
		d.done[op] += many
	}
}

// seen fails where an operation, a kind of pause, a trap, or a limit was come to too seldom.
func (d *drive) seen(most int) {
	d.Helper()
	for op := api.IInt; op <= api.Ops; op++ {
		if d.done[op] < most {
			d.Error("operations:", op, d.done[op])
		}
	}
	for kind := api.PTick; kind <= api.PSpent; kind++ {
		if d.kinds[kind] < most {
			d.Error("pauses of a kind:", kind, d.kinds[kind])
		}
	}
	for _, code := range [][2]int{{api.PTrap, api.TrapDivide}, {api.PTrap, api.TrapIndex}, {api.PTrap, api.TrapFill}, {api.PTrap, api.TrapNil}, {api.PTrap, api.TrapWrong}, {api.PSpent, api.SpentCells}, {api.PSpent, api.SpentDepth}} {
		if d.codes[code] < most/10 {
			d.Error("a trap or a limit:", code, d.codes[code])
		}
	}
}

// TestMade: P11.1 to P11.7 against the second reading, on made-up units, whatever is given, fired and run.
func TestMade(t *testing.T) {
	d := newDrive(t, newMaker(1))
	for range 6000 {
		u := d.unit()
		if n, at, why := verify.Check(u); why != api.OK {
			t.Fatalf("%s\nis refused: %d, %d, %d", shown(u), n, at, why)
		}
		d.live(u, 40)
	}
	d.seen(500)
}

// TestBuilt: likewise, on units that Build made of programs of which nothing is wrong.
func TestBuilt(t *testing.T) {
	d := newDrive(t, newMaker(2))
	for range 6000 {
		a := &author{Rand: d.Rand}
		d.live(builtOf(t, a.program()), 60)
	}
	d.seen(100)
}

func builtOf(t *testing.T, src string) api.Unit {
	t.Helper()
	l, f := parse.Parse([]byte(src), api.MaxNest)
	if f.Code != api.OK {
		t.Fatalf("%.300q: parse's fault %v", src, f)
	}
	u, f := build.Build(l)
	if f.Code != api.OK {
		t.Fatalf("%.300q: build's fault %v", src, f)
	}
	return u
}
