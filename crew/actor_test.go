package crew_test

import (
	"slices"

	"squint/api"
	"squint/value"
)

// actor is a process that does anything, but speaks on channels alone that it holds. What it does hangs on its seed and on all that came to it, so that whoever gets another value goes another way.
type actor struct {
	seed   uint64
	names  []int // channels that it has
	got    []int // those that it was fired with last
	deep   int   // calls
	at     api.Pause
	goes   bool
	births int // how often it begins others, of 40 times
	early  int // how often it makes a channel, or begins one, ahead of all else
}

func newActor(seed uint64, births int) *actor {
	return &actor{seed: seed, names: []int{1, 2}, deep: 1, goes: true, births: births, early: 12}
}

// any is a number from 0 on, below n.
func (x *actor) any(n int) int {
	x.seed += 0x9e3779b97f4a7c15
	z := x.seed
	z = (z ^ z>>30) * 0xbf58476d1ce4e5b9
	z = (z ^ z>>27) * 0x94d049bb133111eb
	return int((z ^ z>>31) % uint64(n))
}

// mind lets what it does hang on a value.
func (x *actor) mind(v api.Value) {
	x.seed = x.seed*31 + uint64(v.Kind)*7 + uint64(v.Num)
	x.any(2)
	for _, one := range v.List {
		x.mind(one)
	}
}

func (x *actor) channel() int {
	if len(x.names) == 0 || x.any(12) == 0 {
		return 0
	}
	return x.names[x.any(len(x.names))]
}

func (x *actor) value() api.Value {
	switch x.any(6) {
	case 0:
		return api.Value{Kind: api.VBool, Num: x.any(2)}
	case 1, 2:
		return channel(x.channel())
	case 3:
		return tuple(channel(x.channel()), number(x.any(9)), channel(x.channel()))
	}
	return number(x.any(9) - 4)
}

func (x *actor) channels(n int) (out []api.Value) {
	for range n {
		out = append(out, channel(x.channel()))
	}
	return out
}

func (x *actor) over(p api.Pause) api.Pause {
	x.names, x.got, x.goes = nil, nil, false
	return p
}

// next is what it comes to.
func (x *actor) next(depth int) api.Pause {
	k := x.any(40)
	if x.early > 0 {
		// The first one does not wait before there is somebody to meet.
		x.early--
		k = 2 + x.any(x.births) + x.early%2*15
	}
	switch {
	case k < 1:
		return x.over(api.Pause{Kind: api.PExit})
	case k < 2:
		return x.over(api.Pause{Kind: api.PTrap, Code: 1 + x.any(5)})
	case k < 2+x.births:
		return api.Pause{Kind: api.PBorn, Fn: api.Value{Kind: api.VProg, Num: 1 + x.any(1<<40), List: x.channels(x.any(4))}, Args: append(x.channels(x.any(3)), x.value())}
	case k < 18:
		return api.Pause{Kind: api.PMake}
	case k < 21 && x.deep >= depth:
		return x.over(api.Pause{Kind: api.PSpent, Code: api.SpentDepth})
	case k < 21:
		x.deep++
		return api.Pause{Kind: api.PTick}
	case k < 24:
		x.deep = max(1, x.deep-1)
		return api.Pause{Kind: api.PTick}
	}
	p := api.Pause{Kind: api.PWait}
	for range min(3, x.any(40)) + x.any(2) {
		a := api.Arm{Chan: x.channel(), Send: x.any(2) == 0}
		if a.Send {
			a.Value = x.value()
		}
		p.Arms = append(p.Arms, a)
	}
	return p
}

func (x *actor) Run(cells, depth int) api.Pause {
	if !x.goes {
		again := x.at
		again.Cells = 0
		return again
	}
	x.names = slices.Compact(slices.Sorted(slices.Values(append(slices.Clone(x.names), x.got...))))
	x.got = nil
	x.names = slices.DeleteFunc(x.names, func(int) bool { return x.any(9) == 0 })
	ahead, use := x.any(3), max(0, x.any(8)-4)
	switch {
	case ahead > cells:
		x.at = x.over(api.Pause{Kind: api.PSpent, Code: api.SpentCells})
	case ahead+use > cells:
		x.at = x.over(api.Pause{Kind: api.PSpent, Code: api.SpentCells, Cells: ahead})
	default:
		x.at = x.next(depth)
		x.at.Cells = ahead + use
	}
	x.goes = x.at.Kind == api.PTick || x.at.Kind == api.PBorn
	return x.at
}

func (x *actor) Give(v api.Value) {
	if x.at.Kind == api.PMake && !x.goes {
		x.mind(v)
		x.got, x.goes = value.Chans(v), true
	}
}

func (x *actor) Fire(arm int, v api.Value) {
	if x.at.Kind == api.PWait && !x.goes && arm >= 0 && arm < len(x.at.Arms) {
		x.mind(number(arm))
		if !x.at.Arms[arm].Send {
			x.mind(v)
			x.got = value.Chans(v)
		}
		x.goes = true
	}
}

func (x *actor) Held() []int {
	out := append(slices.Clone(x.names), x.got...)
	if x.at.Kind == api.PWait && !x.goes {
		for _, a := range x.at.Arms {
			out = append(append(out, a.Chan), value.Chans(a.Value)...)
		}
	}
	out = slices.Compact(slices.Sorted(slices.Values(out)))
	return slices.DeleteFunc(out, func(c int) bool { return c == 0 })
}

func (x *actor) Child(fn api.Value, args []api.Value) *actor {
	all := tuple(append([]api.Value{fn}, args...)...)
	y := &actor{names: value.Chans(all), deep: 1, goes: true, births: x.births}
	y.mind(all)
	return y
}

func (x *actor) Clone() *actor {
	y := *x
	y.names, y.got = slices.Clone(x.names), slices.Clone(x.got)
	return &y
}
