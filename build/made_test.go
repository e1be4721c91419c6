package build_test

import (
	"math/rand/v2"
	"strings"
	"testing"

	"squint/api"
)

// tally is what runs have come to.
type tally struct {
	nodes  map[int]int    // nodes done, by their kinds
	pauses map[int]int    // by their kinds
	ends   map[[2]int]int // of processes: the last pause's Kind and Code
	done   int            // instructions that were done in some process
	never  int
}

func newTally() *tally {
	return &tally{nodes: map[int]int{}, pauses: map[int]int{}, ends: map[[2]int]int{}}
}

func (a *tally) add(c *crew) {
	for kind, many := range c.seen {
		a.pauses[kind] += many
	}
	for kind, many := range c.walks[0].seen {
		a.nodes[kind] += many
	}
	for _, one := range c.procs {
		if p := one.runner.pause; hasEnded(one) {
			a.ends[[2]int{p.Kind, p.Code}]++
		}
	}
	for n, p := range c.u.Progs {
		for at := range p.Code {
			if c.procs[0].runner.prog[[2]int{n, at}] > 0 {
				a.done++
			} else {
				a.never++
			}
		}
	}
}

// wantMany: of each kind of node, of pause and of end there were so many.
func (a *tally) wantMany(t *testing.T, many int) {
	t.Helper()
	for kind := api.EInt; kind <= api.NSend; kind++ {
		if isDone := kind <= api.EField || kind >= api.SVal && kind != api.NParam; isDone && a.nodes[kind] < many {
			t.Errorf("only %d nodes of the kind %d", a.nodes[kind], kind)
		}
	}
	for kind := api.PTick; kind <= api.PSpent; kind++ {
		if a.pauses[kind] < many {
			t.Errorf("only %d pauses of the kind %d", a.pauses[kind], kind)
		}
	}
	for _, end := range [][2]int{{api.PExit, 0}, {api.PWait, 0}, {api.PTrap, api.TrapDivide}, {api.PTrap, api.TrapIndex}, {api.PTrap, api.TrapFill}, {api.PTrap, api.TrapNil}, {api.PSpent, api.SpentCells}, {api.PSpent, api.SpentDepth}} {
		if a.ends[end] < many/10 {
			t.Errorf("only %d processes end with %v", a.ends[end], end)
		}
	}
	if a.done < 100*many {
		t.Errorf("%d instructions were done, %d never", a.done, a.never)
	}
}

// P10.2, P10.3, P10.5: made programs, run both ways.
func TestMade(t *testing.T) {
	all := newTally()
	some(t, 1, 12000, func(r *rand.Rand, l []api.Node) {
		if len(l) > 2000 {
			return
		}
		for range 1 + r.IntN(3) {
			c := newCrew(t, l, r)
			c.live(60)
			c.end()
			all.add(c)
		}
	})
	all.wantMany(t, 200)
}

// pieces are statements, and what stands about others (X) and behind them.
var pieces = []string{
	"val v = make chan of int;", "var v: chan of int; v = d;", "<-cc;", "c <-= <-c;", "cc <-= make chan of int;", "a[<-c] = <-cc;", "t.0[<-c] = d;", "return;",
	"select { }", "begin h(d);", "val x = k(d);", "k(<-cc);", "begin k(<-cc);", "val p = prog(): chan of int { return d; };", "while <-b || <-b && <-b { }",
}

var abouts = []string{
	"{ val d = make chan of int; X } X", "if <-b { X }", "if <-b { val d = <-cc; X } else { X } <-c;", "if <-b { X } else if <-b { val d = <-cc; X } else { X } <-c;",
	"while <-b { val d = <-cc; X }", "select { case d = <-cc { X } }", "select { case <-cc { X } case d = <-cc { X } case c <-= 1 { val d = <-cc; X } } <-c;",
	"val f = prog(d: chan of int) { X }; f(<-cc); f(make chan of int);", "begin prog(d: chan of int) { X <-c; }(<-cc); <-c;",
	"val f = prog g(n: int) { if n > 0 { g(n - 1); } X }; f(1);",
	"val f = prog() { val q = prog() { X }; q(); }; f();",
}

// P10.2, P10.3, P10.5: all programs of a few pieces in one another.
func TestSmall(t *testing.T) {
	head := "val b = make chan of bool; val c = make chan of int; val cc = make chan of chan of int; val h = prog(e: chan of int) { <-e; }; val k = prog(e: chan of int): chan of int { cc <-= e; return c; }; val d = make chan of int; "
	vars := "var a: array of chan of int = [d, c]; var t: (array of chan of int, int) = ([d, c], 1); "
	r := rand.New(rand.NewPCG(10, 7))
	all := newTally()
	fill := func(about, inner string) string { return strings.ReplaceAll(about, "X", "{ "+vars+inner+" }") }
	for _, outer := range abouts {
		for _, inner := range abouts {
			for _, piece := range pieces {
				l := parsed(t, head+fill(outer, fill(inner, piece)))
				for range 3 {
					c := newCrew(t, l, r)
					c.live(100)
					c.end()
					all.add(c)
				}
			}
		}
	}
	if all.done < all.never {
		t.Errorf("%d instructions were done, %d never", all.done, all.never)
	}
}
