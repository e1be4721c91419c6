package machine

import (
	"slices"

	"squint/api"
	"squint/value"
)

func (x *Machine) zero(i api.Ins, _ []thing) {
	v, ok := value.Zero(x.types, i.A, x.left)
	if !ok {
		x.spend(api.SpentCells)
		return
	}
	x.layMade(keep(v))
}

func (x *Machine) tuple(_ api.Ins, got []thing) { x.make(api.VTuple, 0, got) }

func (x *Machine) array(_ api.Ins, got []thing) { x.make(api.VArray, 0, got) }

func (x *Machine) prog(i api.Ins, got []thing) { x.make(api.VProg, i.A+1, got) }

// make lays a value that is made of what was popped.
func (x *Machine) make(kind, num int, got []thing) {
	// Counted down from what is left, as a sum might be more than a number can be.
	left := x.left - 1
	for k := 0; k < len(got) && left >= 0; k++ {
		left -= got[k].cells()
	}
	if left < 0 {
		x.spend(api.SpentCells)
		return
	}
	// What was popped lies where the stack goes on.
	x.layMade(together(kind, num, slices.Clone(got)))
}

// layMade lays a value for whose cells there is room.
func (x *Machine) layMade(v thing) {
	x.left -= v.cells()
	x.lay(v)
}

func (x *Machine) fill(_ api.Ins, got []thing) {
	many, one := got[0].num, got[1]
	if many < 0 {
		x.trap(api.TrapFill)
		return
	}
	if x.left < 1 || many > (x.left-1)/one.cells() {
		x.spend(api.SpentCells)
		return
	}
	x.layMade(filled(many, one))
}

func (x *Machine) part(i api.Ins, got []thing) {
	slot, last := &x.running().slots[i.A], len(got)-1
	way, why := down(*slot, i.List, got[:last])
	if why != 0 {
		x.trap(why)
		return
	}
	end := way[len(way)-1]
	stays := slot.cells() - end.of.at(end.k).cells()
	if got[last].cells() > x.left-stays {
		x.spend(api.SpentCells)
		return
	}
	*slot = with(way, got[last])
	x.left -= slot.cells()
}

// step is a place on the way to a part: a thing, and which of the values that stand in it is the next one.
type step struct {
	of thing
	k  int
}

// down is the way from a thing to the part at a path, of which the indices are told apart; or the trap of the first step that leads nowhere.
func down(from thing, path []int, indices []thing) ([]step, int) {
	var way []step
	for _, k := range path {
		kind, missing := api.VTuple, api.TrapWrong
		if k < 0 {
			if indices[0].kind != api.VInt {
				return nil, api.TrapWrong
			}
			kind, missing = api.VArray, api.TrapIndex
			k, indices = indices[0].num, indices[1:]
		}
		if from.kind != kind {
			return nil, api.TrapWrong
		}
		if k < 0 || k >= from.many() {
			return nil, missing
		}
		way = append(way, step{from, k})
		from = from.at(k)
	}
	return way, 0
}

// with is what a way begins with, but that at its end there is another value.
func with(way []step, v thing) thing {
	for at := len(way) - 1; at >= 0; at-- {
		list := way[at].of.all()
		list[way[at].k] = v
		v = together(way[at].of.kind, way[at].of.num, list)
	}
	return v
}
