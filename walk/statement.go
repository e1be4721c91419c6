package walk

import (
	"squint/api"
	"squint/kept"
)

// declaring is an SVal, or an SVar with an expression.
type declaring struct{ kids }

func (d declaring) goOn(x *Walker, times int) {
	if !d.next(x, times) {
		x.declare(x.got()[0])
		x.close()
	}
}

// blank is an SVar without one: its name has a default value.
type blank struct{ zero kept.Value }

func (d blank) goOn(x *Walker, _ int) {
	v, ok := d.zero.Within(x.left)
	if x.uses(v, ok) {
		x.declare(v)
		x.close()
	}
}

// setting is an SSet: the indices of the place, and the expression.
type setting struct {
	kids
	slot int
	path []int // of parts' numbers, and of -1 for an index; none, if the place is a name alone
}

func (d setting) goOn(x *Walker, times int) {
	if d.next(x, times) {
		return
	}
	got, slot := x.got(), &x.running().names[d.slot]
	last := len(got) - 1
	if len(d.path) == 0 {
		*slot = got[last]
		x.close()
		return
	}
	v, why, ok := slot.Set(d.path, got[:last], got[last], x.left)
	if why != 0 {
		x.trap(why)
		return
	}
	if x.uses(v, ok) {
		*slot = v
		x.close()
	}
}

// sending is an SSend.
type sending struct{ kids }

func (d sending) goOn(x *Walker, times int) {
	switch {
	case d.next(x, times):
	case times == len(d.kids):
		x.wait(true)
	default:
		x.close()
	}
}

// dropping is an SDo: what its expression comes to, if anything, is dropped.
type dropping struct{ kids }

func (d dropping) goOn(x *Walker, times int) {
	if !d.next(x, times) {
		x.close()
	}
}

// branching is an SIf.
type branching struct{ condition, yes, no doer }

func (d branching) goOn(x *Walker, times int) {
	if times == 0 {
		x.open(d.condition)
		return
	}
	if !x.ofKinds(api.VBool) {
		return
	}
	switch {
	case truth(x.got()[0]):
		x.become(d.yes)
	case d.no != nil:
		x.become(d.no)
	default:
		x.close()
	}
}

// looping is an SWhile.
type looping struct{ condition, block doer }

func (d looping) goOn(x *Walker, times int) {
	switch times {
	case 0:
		x.open(d.condition)
	case 1:
		if !x.ofKinds(api.VBool) {
			return
		}
		if !truth(x.taken()[0]) {
			x.close()
			return
		}
		x.open(d.block)
	default:
		x.inmost().times = 0
		x.tick()
	}
}

// choosing is an SSelect: the channels of its arms, and what they send.
type choosing struct {
	kids
	arms []side
}

// side is an arm of an SSelect.
type side struct {
	send, named bool // named: what it receives has a name
	block       doer
}

func (d choosing) goOn(x *Walker, times int) {
	switch {
	case d.next(x, times):
	case times == len(d.kids):
		var sends []bool
		for _, one := range d.arms {
			sends = append(sends, one.send)
		}
		x.wait(sends...)
	default:
		one := d.arms[x.fired]
		if one.named {
			x.declare(x.got()[0])
		}
		x.become(one.block)
	}
}

// blocking is an SBlock.
type blocking struct {
	kids
	names int // how many are in scope outside of it
}

func (d blocking) goOn(x *Walker, times int) {
	if d.next(x, times) {
		return
	}
	c := x.running()
	c.names = c.names[:d.names]
	x.close()
}
