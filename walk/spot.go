package walk

import (
	"squint/api"
	"squint/kept"
)

// doer is a node's own thing, which knows how to go on with it.
type doer interface {
	// goOn does what comes next of a node that has been gone on with so many times: it opens a kid, which is done then ahead of the next time; or it is done itself; or there is a pause.
	goOn(x *Walker, times int)
}

// spot is a node that is not done yet.
type spot struct {
	do    doer
	times int // how often it has been gone on with
	base  int // what has been worked out for it stands on the stack from here on
}

// open begins with a node, which stands in the one that is innermost now.
func (x *Walker) open(d doer) {
	x.spots = append(x.spots, spot{do: d, base: len(x.stack)})
}

// got is what has been worked out for the innermost node.
func (x *Walker) got() []kept.Value { return x.stack[x.inmost().base:] }

// taken likewise, but that it stands there no longer. (It lies there till something else is laid.)
func (x *Walker) taken() []kept.Value {
	out := x.got()
	x.stack = x.stack[:x.inmost().base]
	return out
}

func (x *Walker) inmost() *spot { return &x.spots[len(x.spots)-1] }

// lay lays a value for the innermost node.
func (x *Walker) lay(v kept.Value) { x.stack = append(x.stack, v) }

// close is where the innermost node is done, and what was worked out for it dropped.
func (x *Walker) close() {
	x.taken()
	x.spots = x.spots[:len(x.spots)-1]
}

// end likewise, and a value is what it came to.
func (x *Walker) end(v kept.Value) {
	x.close()
	x.lay(v)
}

// become goes on with another node in place of the innermost one.
func (x *Walker) become(d doer) {
	x.close()
	x.open(d)
}

// made ends with a value that is made, if there is room for its cells.
func (x *Walker) made(v kept.Value, ok bool) {
	if x.uses(v, ok) {
		x.end(v)
	}
}

// uses uses a value's cells, if there is room for them.
func (x *Walker) uses(v kept.Value, ok bool) bool {
	if !ok {
		x.spend(api.SpentCells)
		return false
	}
	x.left -= v.Cells()
	return true
}

// kids are opened one after the other.
type kids []doer

// next opens the kid of a number; false: all of them are done.
func (k kids) next(x *Walker, at int) bool {
	if at >= len(k) {
		return false
	}
	x.open(k[at])
	return true
}

// ofKinds traps where what has been worked out is not of the kinds that are wanted. (What came in may be of any.)
func (x *Walker) ofKinds(wants ...int) bool {
	for k, v := range x.got() {
		if k < len(wants) && v.Kind != wants[k] {
			x.trap(api.TrapWrong)
			return false
		}
	}
	return true
}
