package machine

import (
	"squint/api"
	"squint/kept"
)

// call is a prog that runs.
type call struct {
	fn    kept.Value // the prog's value
	prog  *api.Prog
	slots []kept.Value // up to the last one that ever had a value: most calls never use all of them
	stack []kept.Value
	at    int // the instruction that is next
}

// cut takes so many values off the stack. What it answers has no room behind its end, so that no append to it writes where the stack goes on.
func (c *call) cut(many int) []kept.Value {
	end := len(c.stack)
	out := c.stack[end-many : end : end]
	c.stack = c.stack[:end-many]
	return out
}

// running is the call that runs.
func (x *Machine) running() *call { return &x.calls[len(x.calls)-1] }

// lay lays a value on the stack of the call that runs.
func (x *Machine) lay(v kept.Value) {
	c := x.running()
	c.stack = append(c.stack, v)
}

// enter lays a call of a prog that fits on the others.
func (x *Machine) enter(fn kept.Value, args []kept.Value) {
	x.calls = append(x.calls, call{fn: fn, prog: &x.progs[fn.Num-1], slots: args})
}

func (x *Machine) call(i api.Ins, got []kept.Value) {
	fn, args := got[0], got[1:]
	if why := x.unfit(fn, len(args)); why != 0 {
		x.trap(why)
		return
	}
	if x.progs[fn.Num-1].Res != (i.B == 1) {
		x.trap(api.TrapWrong)
		return
	}
	if len(x.calls) >= x.depth {
		x.spend(api.SpentDepth)
		return
	}
	// The arguments stay where they were laid: nothing is laid there again until the call has ended.
	x.enter(fn, args)
	x.stop(pause{kind: api.PTick})
}

func (x *Machine) begin(_ api.Ins, got []kept.Value) {
	fn, args := got[0], got[1:]
	if why := x.unfit(fn, len(args)); why != 0 {
		x.trap(why)
		return
	}
	x.stop(pause{kind: api.PBorn, fn: fn, args: args})
}

func (x *Machine) ret(api.Ins, []kept.Value) {
	last := len(x.calls) - 1
	ended := x.calls[last]
	x.calls[last] = call{}
	x.calls = x.calls[:last]
	if last == 0 {
		x.stop(pause{kind: api.PExit})
		return
	}
	if ended.prog.Res {
		x.lay(ended.stack[len(ended.stack)-1])
	}
}
