package walk_test

import (
	"math/rand/v2"
	"slices"
	"strings"
	"sync"
	"testing"

	"squint/api"
	"squint/walk"
)

// bounds holds a Run against those of clones with other cells and depths: P12.9.
func (c *crew) bounds(x *process, cells, depth int) {
	c.t.Helper()
	greater, exact, fewer := x.real.Clone(), x.real.Clone(), x.real.Clone()
	p := x.real.Clone().Run(cells, depth)
	if q := greater.Run(cells+c.IntN(1000), depth+c.IntN(10)); p.Kind != api.PSpent && !samePause(p, q) {
		x.fail("Run with more", line(q), line(p))
	}
	if p.Kind == api.PSpent {
		return
	}
	if q := exact.Run(p.Cells, depth); !samePause(p, q) {
		x.fail("Run with as many cells as are used", line(q), line(p))
	}
	if q := fewer.Run(p.Cells-1, depth); p.Cells > 0 && (q.Kind != api.PSpent || q.Code != api.SpentCells || q.Cells >= p.Cells) {
		x.fail("Run with a cell too few", line(q), line(p))
	}
}

// TestBounds: P12.9: what a Run tells does not hang on the greatness of cells and depth, but where they are passed.
func TestBounds(t *testing.T) {
	some(t, 4, 2000, func(r *rand.Rand, l []api.Node) {
		c := newCrew(newProgram(t, l), r, false)
		for range 40 {
			x := c.procs[r.IntN(len(c.procs))]
			if !x.over() {
				c.step(x)
				c.bounds(x, 300, 6)
			}
		}
		c.end()
	})
}

// act is something that is done with a walker.
type act struct {
	what, a, b int
	v          api.Value
}

func (c *crew) acts(many int) []act {
	var out []act
	for range many {
		switch k := c.IntN(8); k {
		case 0:
			out = append(out, act{what: didGive, v: channel(c.IntN(9))})
		case 1, 2:
			out = append(out, act{what: didFire, a: c.IntN(4) - 1, v: c.value(c.IntN(len(c.typed.Types)), 2)})
		default:
			out = append(out, act{what: didRun, a: 200, b: 5})
		}
	}
	return out
}

// do does it, and tells what was answered.
func (one act) do(x *walk.Walker) string {
	switch one.what {
	case didGive:
		x.Give(one.v)
	case didFire:
		x.Fire(one.a, one.v)
	case didRun:
		return line(x.Run(one.a, one.b))
	}
	return ""
}

// TestUnseen: P12.9, P12.5, P12.7, R5: what a Run tells does not hang on whether Held was asked, or children and clones were made and run.
func TestUnseen(t *testing.T) {
	some(t, 5, 1500, func(r *rand.Rand, l []api.Node) {
		c := newCrew(newProgram(t, l), r, true)
		acts := c.acts(30)
		quiet, loud := begun(t, l), begun(t, l)
		for k, one := range acts {
			want := one.do(quiet)
			if got := one.do(loud); got != want {
				t.Fatalf("%s\n%d: %s, not %s", shown(l), k, got, want)
			}
			loud.Held()
			for _, i := range c.nodes {
				child := loud.Child(c.closed(i, 1), nil)
				child.Run(20, 3)
				child.Held()
			}
			other := loud.Clone()
			for range 3 {
				other.Run(20, 3)
				other.Give(channel(99))
				other.Fire(0, channel(99))
			}
			other.Held()
		}
		if !slices.Equal(quiet.Held(), loud.Held()) {
			t.Fatalf("%s\nheld: %v, not %v", shown(l), loud.Held(), quiet.Held())
		}
	})
}

// TestAtTheSameTime: clones and children share nothing that anybody writes: goroutines may run them.
func TestAtTheSameTime(t *testing.T) {
	some(t, 6, 300, func(r *rand.Rand, l []api.Node) {
		c := newCrew(newProgram(t, l), r, true)
		x := begun(t, l)
		for _, one := range c.acts(r.IntN(8)) {
			one.do(x)
		}
		acts := c.acts(20)
		var got [4][]string
		var all sync.WaitGroup
		for k := range got {
			own := x.Clone()
			all.Go(func() {
				for _, one := range acts {
					got[k] = append(got[k], one.do(own))
					own.Child(prog(1+len(l)/2, one.v), nil).Run(9, 9)
					own.Clone().Run(9, 9)
				}
			})
		}
		all.Wait()
		for k := range got {
			if !slices.Equal(got[k], got[0]) {
				t.Fatalf("%s\n%v, not %v", shown(l), got[k], got[0])
			}
		}
	})
}

// TestTwoAnswers: R4: what is told twice lies in two places.
func TestTwoAnswers(t *testing.T) {
	x := begun(t, parsed(t, "val c = make chan of array of (array of int, chan of int); c <-= fill(3, ([1], input));"))
	x.Run(9, 9)
	x.Give(channel(3))
	y := x.Clone()
	a, b, c, d := x.Run(99, 1), x.Run(99, 1), x.Clone().Run(99, 1), y.Run(99, 1)
	for _, p := range []api.Pause{a, b, c, d} {
		if len(p.Arms) != 1 || text(p.Arms[0].Value) != "[([1] c1) ([1] c1) ([1] c1)]" {
			t.Error(line(p))
		}
	}
	if !apart(slices.Concat(spansOf(a), spansOf(b), spansOf(c), spansOf(d))) {
		t.Error("answers share memory")
	}
	if h, k := x.Held(), x.Held(); !apart(slices.Concat(spanOf(h), spanOf(k))) {
		t.Error("what is held shares memory")
	}
}

// TestEnds: P12.10: each Run of a program that never ends comes to a pause, however many cells and calls there may be.
func TestEnds(t *testing.T) {
	for _, src := range []string{
		"while true { }", "while true { while true { } }", "val f = prog g() { g(); }; f();", "val f = prog g() { begin g(); g(); }; while true { f(); }",
		"var t: (int, int); while true { t.0 = t.0 + 1; if t.0 > 5 { t = (0, 0); } }", "while true { { while true { } } select { } }",
	} {
		x := begun(t, parsed(t, src))
		for range 1000 {
			if p := x.Run(1<<62, 1<<62); p.Kind != api.PTick && p.Kind != api.PBorn {
				t.Fatalf("%s: %s", src, line(p))
			}
		}
	}
	long := begun(t, parsed(t, strings.Repeat("val x = (1, 2); { ", 3000)+"output <-= x.1;"+strings.Repeat(" }", 3000)))
	if p := long.Run(9000, 1); line(p) != "wait !2=2 +9000" {
		t.Error(line(p))
	}
}
