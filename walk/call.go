package walk

import (
	"slices"

	"squint/api"
	"squint/kept"
)

// call is a prog that runs.
type call struct {
	fn    kept.Value
	names []kept.Value // the values of those that are in scope, in the order of their declarations
	spots int          // how many nodes are the other calls'
	base  int          // likewise of the stack
}

// running is the call that runs.
func (x *Walker) running() *call { return &x.calls[len(x.calls)-1] }

// declare is where a name comes into scope.
func (x *Walker) declare(v kept.Value) {
	c := x.running()
	c.names = append(c.names, v)
}

// enter lays a call on the others; the arguments are its own from then on.
func (x *Walker) enter(of *prog, fn kept.Value, args []kept.Value) {
	x.calls = append(x.calls, call{fn: fn, names: args, spots: len(x.spots), base: len(x.stack)})
	x.open(of.body)
}

// leave ends the call that runs, with what it returns, if anything.
func (x *Walker) leave(result ...kept.Value) {
	last := len(x.calls) - 1
	c := x.calls[last]
	x.calls, x.spots, x.stack = x.calls[:last], x.spots[:c.spots], x.stack[:c.base]
	if last == 0 {
		x.stop(pause{kind: api.PExit})
		return
	}
	x.stack = append(x.stack, result...)
}

// fit is the prog that is called by a value with so many arguments; or a trap, if it does not fit them.
func (p *plan) fit(fn kept.Value, args int) (*prog, int) {
	if fn.Kind != api.VProg {
		return nil, api.TrapWrong
	}
	if fn.Num == 0 {
		return nil, api.TrapNil
	}
	if fn.Num < 0 || fn.Num > len(p.progs) {
		return nil, api.TrapWrong
	}
	of := p.progs[fn.Num-1]
	if of == nil || fn.Many() != of.caps || args != of.params {
		return nil, api.TrapWrong
	}
	return of, 0
}

// calling is an ECall: what is called, and the arguments.
type calling struct {
	kids
	result bool
}

func (d calling) goOn(x *Walker, times int) {
	switch {
	case d.next(x, times):
	case times == len(d.kids):
		d.begin(x)
	case d.result:
		x.end(x.got()[0])
	default:
		x.close()
	}
}

// begin is where all has been worked out, and the call begins.
func (d calling) begin(x *Walker) {
	got := x.taken()
	fn, args := got[0], slices.Clone(got[1:])
	of, why := x.fit(fn, len(args))
	if why == 0 && of.result != d.result {
		why = api.TrapWrong
	}
	if why != 0 {
		x.trap(why)
		return
	}
	if len(x.calls) >= x.depth {
		x.spend(api.SpentDepth)
		return
	}
	x.enter(of, fn, args)
	x.tick()
}

// beginning is an SBegin: likewise of the call that stands in it.
type beginning struct{ kids }

func (d beginning) goOn(x *Walker, times int) {
	if d.next(x, times) {
		return
	}
	got := slices.Clone(x.got())
	x.close()
	fn, args := got[0], got[1:]
	if _, why := x.fit(fn, len(args)); why != 0 {
		x.trap(why)
		return
	}
	x.stop(pause{kind: api.PBorn, fn: fn, args: args})
}

// body is a prog's, or the program's.
type body struct{ block doer }

func (d body) goOn(x *Walker, times int) {
	if times == 0 {
		x.open(d.block)
		return
	}
	x.leave()
}

// returning is an SReturn; of one without an expression there is no kid.
type returning struct{ kids }

func (d returning) goOn(x *Walker, times int) {
	if !d.next(x, times) {
		x.leave(x.got()...)
	}
}
