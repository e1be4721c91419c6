package machine_test

import (
	"fmt"
	"math"
	"slices"
	"sync"
	"testing"

	"squint/api"
	"squint/machine"
	"squint/value"
)

// deed is something that is done with a machine.
type deed struct {
	what         int // 0: Run; 1: Give; 2: Fire
	cells, depth int
	arm          int
	v            api.Value
}

func (d deed) do(x *machine.Machine) string {
	switch d.what {
	case 0:
		return fmt.Sprint(line(x.Run(d.cells, d.depth)), " holds ", x.Held())
	case 1:
		x.Give(d.v)
	case 2:
		x.Fire(d.arm, d.v)
	}
	return fmt.Sprint("holds ", x.Held())
}

// deeds are such that a machine mostly goes on.
func (m maker) deeds(many int) []deed {
	var out []deed
	for k := range many {
		d := deed{what: pick(m, 0, 0, 1, 2, 2), cells: 300, depth: 5, arm: m.IntN(2), v: channel(3 + k)}
		if d.what == 2 {
			d.v = m.value(m.someKind(), 2)
		}
		if m.IntN(20) == 0 {
			d.cells, d.depth = m.IntN(6), m.IntN(3)
		}
		out = append(out, d)
	}
	return out
}

// some are made-up units and built ones.
func some(t *testing.T, seed uint64, many int, do func(m maker, u api.Unit)) {
	t.Helper()
	m := newMaker(seed)
	for k := range many {
		u := m.unit()
		if k%3 == 0 {
			a := &author{Rand: m.Rand}
			u = builtOf(t, a.program())
		}
		do(m, u)
	}
}

// TestMoreIsTheSame: P11.8.
func TestMoreIsTheSame(t *testing.T) {
	same, spent := 0, 0
	some(t, 4, 4000, func(m maker, u api.Unit) {
		x := begun(t, u)
		for _, d := range m.deeds(25) {
			if d.what == 0 {
				less, more := x.Clone(), x.Clone()
				cells, depth := pick(m, -1, 0, 1, 2, 5, 9, 20), pick(m, -1, 0, 1, 2, 5)
				a := less.Run(cells, depth)
				b := more.Run(cells+pick(m, 1, 2, 1<<20), depth+pick(m, 1, 2, 1<<40))
				if a.Kind == api.PSpent {
					spent++
				} else if same++; !samePause(a, b) {
					t.Fatalf("%s\n%d cells, %d deep: %s; with more %s", shown(u), cells, depth, line(a), line(b))
				}
			}
			d.do(x)
		}
	})
	if same < 5000 || spent < 500 {
		t.Error(same, spent)
	}
}

// TestHeldCameFrom: P11.9: nobody holds a channel that it was not given.
func TestHeldCameFrom(t *testing.T) {
	most := 0
	some(t, 5, 4000, func(m maker, u api.Unit) {
		x := begun(t, u)
		got := []int{api.In, api.Out}
		if m.IntN(3) == 0 {
			n := m.IntN(len(u.Progs))
			fn, args := prog(n+1, m.list(2, u.Progs[n].Caps)...), m.list(2, u.Progs[n].Params)
			got = value.Chans(tuple(append(args, fn)...))
			x = x.Child(fn, args)
		}
		for _, d := range m.deeds(30) {
			if d.what > 0 {
				got = append(got, value.Chans(d.v)...)
			}
			p := d.do(x)
			held := x.Held()
			for k, c := range held {
				if !slices.Contains(got, c) || c <= 0 || k > 0 && held[k-1] >= c {
					t.Fatalf("%s\n%s, of %v", shown(u), p, got)
				}
			}
			most = max(most, len(held))
		}
	})
	if most < 5 {
		t.Error(most)
	}
}

// TestSeenByNobody: P11.6 and P11.10: a machine answers the same, whatever clones and children are made of it, and do; and so does each clone, whatever the one does that it was made of.
func TestSeenByNobody(t *testing.T) {
	some(t, 6, 3000, func(m maker, u api.Unit) {
		deeds := m.deeds(24)
		var want []string
		alone := begun(t, u)
		for _, d := range deeds {
			want = append(want, d.do(alone))
		}
		x := begun(t, u)
		var clones []*machine.Machine
		var ahead []int // of each clone how much was done when it was made
		for k, d := range deeds {
			if m.IntN(3) == 0 {
				clones, ahead = append(clones, x.Clone()), append(ahead, k)
			}
			wild := x.Clone()
			if m.IntN(3) == 0 {
				wild = x.Child(m.value(api.VProg, 2), m.list(2, m.IntN(3)))
			}
			for _, other := range m.deeds(5) {
				other.do(wild)
			}
			if got := d.do(x); got != want[k] {
				t.Fatalf("%s\n%d: %s, not %s", shown(u), k, got, want[k])
			}
		}
		for n, clone := range clones {
			for k := ahead[n]; k < len(deeds); k++ {
				if got := deeds[k].do(clone); got != want[k] {
					t.Fatalf("%s\nof a clone, %d: %s, not %s", shown(u), k, got, want[k])
				}
			}
		}
	})
}

// TestAtTheSameTime: clones and children share nothing that anybody writes: goroutines may run them.
func TestAtTheSameTime(t *testing.T) {
	some(t, 7, 300, func(m maker, u api.Unit) {
		x := begun(t, u)
		for _, d := range m.deeds(m.IntN(8)) {
			d.do(x)
		}
		deeds := m.deeds(20)
		var got [4][]string
		var all sync.WaitGroup
		for k := range got {
			own := x.Clone()
			all.Go(func() {
				for _, d := range deeds {
					got[k] = append(got[k], d.do(own))
					own.Child(prog(1, d.v, d.v), nil).Run(9, 9)
					own.Clone().Run(9, 9)
				}
			})
		}
		all.Wait()
		for k := range got {
			if !slices.Equal(got[k], got[0]) {
				t.Fatalf("%s\n%v, not %v", shown(u), got[k], got[0])
			}
		}
	})
}

// TestTwoAnswers: R4: what is told twice lies in two places.
func TestTwoAnswers(t *testing.T) {
	u := unitOf(t, "prog 0 0 2 0, cap 1, int 3, int 1, array 1, cap 0, tuple 2, fill, wait 1 end, end:, ret")
	x := begun(t, u)
	y := x.Clone()
	a, b, c, d := x.Run(99, 1), x.Run(99, 1), x.Clone().Run(99, 1), y.Run(99, 1)
	for _, p := range []api.Pause{a, b, c, d} {
		if len(p.Arms) != 1 || text(p.Arms[0].Value) != "[([1] c1) ([1] c1) ([1] c1)]" {
			t.Error(line(p))
		}
	}
	if !apart(slices.Concat(spansOf(a), spansOf(b), spansOf(c), spansOf(d))) {
		t.Error("answers share memory")
	}
	h, k := x.Held(), x.Held()
	if !apart(slices.Concat(spanOf(h), spanOf(k))) {
		t.Error("what is held shares memory")
	}
}

// TestNothing: R3: nil lists and empty ones are the same, handed in.
func TestNothing(t *testing.T) {
	empty := api.Value{Kind: api.VProg, Num: 2, List: []api.Value{}}
	u := unitOf(t, "prog 0 0 2 0, cap 0, wait 0 got, got:, len, cap 1, prog 1 0, begin 0, pop, pop, ret, prog 0 0 0 0, ret")
	u.Progs[0].Code[0].List, u.Types = []int{}, []api.Type{}
	x := begun(t, u)
	if p := x.Child(empty, []api.Value{}).Run(0, 0); line(p) != "exit" {
		t.Error(line(p))
	}
	if p := x.Child(prog(2), nil).Run(0, 0); line(p) != "exit" {
		t.Error(line(p))
	}
	x.Run(9, 1)
	x.Fire(0, api.Value{Kind: api.VArray, List: []api.Value{}})
	if p := x.Run(9, 1); line(p) != "born p2<> +1" || len(p.Fn.List) != 0 || len(p.Args) != 0 {
		t.Error(line(p))
	}
}

// TestZeroFields: an answer has nothing but what belongs to its kind.
func TestZeroFields(t *testing.T) {
	some(t, 8, 2000, func(m maker, u api.Unit) {
		x := begun(t, u)
		for _, d := range m.deeds(20) {
			if d.what > 0 {
				d.do(x)
				continue
			}
			p := x.Run(d.cells, d.depth)
			wrong := p.Kind != api.PWait && len(p.Arms) > 0 ||
				p.Kind != api.PBorn && (p.Fn.Kind != 0 || p.Fn.Num != 0 || len(p.Fn.List) > 0 || len(p.Args) > 0) ||
				(p.Kind == api.PTrap || p.Kind == api.PSpent) != (p.Code != 0)
			for _, arm := range p.Arms {
				wrong = wrong || !arm.Send && (arm.Value.Kind != api.VNone || arm.Value.Num != 0 || len(arm.Value.List) > 0)
			}
			if wrong {
				t.Fatalf("%s\n%+v", shown(u), p)
			}
		}
	})
}

// TestAlways: P11.7: with the least and the greatest numbers.
func TestAlways(t *testing.T) {
	some(t, 9, 1500, func(m maker, u api.Unit) {
		x := begun(t, u)
		for _, d := range m.deeds(12) {
			d.cells, d.depth = pick(m, math.MinInt, -1, 0, math.MaxInt), pick(m, math.MinInt, -1, 0, math.MaxInt)
			if d.what > 0 {
				d.arm = pick(m, math.MinInt, -1, 0, 1, math.MaxInt)
				d.do(x)
				continue
			}
			if p := x.Run(d.cells, d.depth); p.Cells < 0 || p.Cells > max(d.cells, 0) {
				t.Fatalf("%s\n%d cells: %s", shown(u), d.cells, line(p))
			}
		}
	})
}
