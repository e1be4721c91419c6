package walk_test

import (
	"math/rand/v2"
	"strings"
	"testing"

	"squint/api"
)

// some are made programs, of which nothing is wrong.
func some(t *testing.T, seed uint64, many int, do func(r *rand.Rand, l []api.Node)) {
	t.Helper()
	r := rand.New(rand.NewPCG(12, seed))
	for range many {
		m := &maker{Rand: r}
		if l := parsed(t, m.program()); len(l) <= 2000 {
			do(r, l)
		}
	}
}

// tally is what processes have come to.
type tally struct {
	nodes  map[int]int    // nodes done, by their kinds
	pauses map[int]int    // by their kinds
	ends   map[[2]int]int // of processes: the last pause's Kind and Code
}

func newTally() *tally {
	return &tally{nodes: map[int]int{}, pauses: map[int]int{}, ends: map[[2]int]int{}}
}

func (a *tally) add(c *crew) {
	for kind, many := range c.seen {
		a.pauses[kind] += many
	}
	if !c.wild {
		for kind, many := range c.all[0].read.seen {
			a.nodes[kind] += many
		}
	}
	for _, x := range c.all {
		if x.over() {
			a.ends[[2]int{x.last.Kind, x.last.Code}]++
		}
	}
}

// wantMany: of each kind of node, of pause and of end there were so many.
func (a *tally) wantMany(t *testing.T, many int) {
	t.Helper()
	for kind := api.EInt; kind <= api.NSend; kind++ {
		if isDone := kind <= api.EField || kind >= api.SVal && kind != api.NParam; isDone && a.nodes[kind] < many {
			t.Errorf("only %d nodes of the kind %d", a.nodes[kind], kind)
		}
	}
	for kind := api.PTick; kind <= api.PSpent; kind++ {
		if a.pauses[kind] < many {
			t.Errorf("only %d pauses of the kind %d", a.pauses[kind], kind)
		}
	}
	for _, end := range [][2]int{{api.PExit, 0}, {api.PWait, 0}, {api.PTrap, api.TrapDivide}, {api.PTrap, api.TrapIndex}, {api.PTrap, api.TrapFill}, {api.PTrap, api.TrapNil}, {api.PSpent, api.SpentCells}, {api.PSpent, api.SpentDepth}} {
		if a.ends[end] < many/10 {
			t.Errorf("only %d processes end with %v", a.ends[end], end)
		}
	}
}

// TestMade: P12.1 to P12.8, W3: made programs, run by walks, by machines and by the second reading.
func TestMade(t *testing.T) {
	all := newTally()
	some(t, 1, 15000, func(r *rand.Rand, l []api.Node) {
		c := newCrew(newProgram(t, l), r, false)
		c.live(60)
		c.end()
		all.add(c)
	})
	all.wantMany(t, 150)
}

// TestWild: P12.6, R1: values of any type whatever come in, and every call ends. (What is made of them is what a machine makes of them.)
func TestWild(t *testing.T) {
	all := newTally()
	some(t, 2, 4000, func(r *rand.Rand, l []api.Node) {
		c := newCrew(newProgram(t, l), r, true)
		c.live(60)
		all.add(c)
	})
	for kind := api.PTick; kind <= api.PSpent; kind++ {
		if all.pauses[kind] < 100 {
			t.Errorf("only %d pauses of the kind %d", all.pauses[kind], kind)
		}
	}
	if end := [2]int{api.PTrap, api.TrapWrong}; all.ends[end] < 1000 {
		t.Errorf("only %d end by a value of another kind", all.ends[end])
	}
}

// pieces are statements, and what stands about others (X) and behind them.
var pieces = []string{
	"val v = make chan of int;", "var v: chan of int; v = d;", "<-cc;", "c <-= <-c;", "cc <-= make chan of int;", "a[<-c] = <-cc;", "t.0[<-c] = d;", "return;",
	"select { }", "begin h(d);", "val x = k(d);", "k(<-cc);", "begin k(<-cc);", "val p = prog(): chan of int { return d; };", "while <-b || <-b && <-b { }",
}

var abouts = []string{
	"{ val d = make chan of int; X } X", "if <-b { X }", "if <-b { val d = <-cc; X } else { X } <-c;", "if <-b { X } else if <-b { val d = <-cc; X } else { X } <-c;",
	"while <-b { val d = <-cc; X }", "select { case d = <-cc { X } }", "select { case <-cc { X } case d = <-cc { X } case c <-= 1 { val d = <-cc; X } } <-c;",
	"val f = prog(d: chan of int) { X }; f(<-cc); f(make chan of int);", "begin prog(d: chan of int) { X <-c; }(<-cc); <-c;",
	"val f = prog g(n: int) { if n > 0 { g(n - 1); } X }; f(1);",
	"val f = prog() { val q = prog() { X }; q(); }; f();",
}

// TestSmall: likewise, all programs of a few pieces in one another.
func TestSmall(t *testing.T) {
	head := "val b = make chan of bool; val c = make chan of int; val cc = make chan of chan of int; val h = prog(e: chan of int) { <-e; }; val k = prog(e: chan of int): chan of int { cc <-= e; return c; }; val d = make chan of int; "
	vars := "var a: array of chan of int = [d, c]; var t: (array of chan of int, int) = ([d, c], 1); "
	r := rand.New(rand.NewPCG(12, 7))
	fill := func(about, inner string) string { return strings.ReplaceAll(about, "X", "{ "+vars+inner+" }") }
	for _, outer := range abouts {
		for _, inner := range abouts {
			for _, piece := range pieces {
				c := newCrew(newProgram(t, parsed(t, head+fill(outer, fill(inner, piece)))), r, false)
				c.live(120)
				c.end()
			}
		}
	}
}
