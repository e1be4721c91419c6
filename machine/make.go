package machine

import (
	"squint/api"
	"squint/kept"
)

func (x *Machine) zero(i api.Ins, _ []kept.Value) { x.made(x.zeros[i.A].Within(x.left)) }

func (x *Machine) tuple(_ api.Ins, got []kept.Value) {
	x.made(kept.Make(api.VTuple, 0, got, x.left))
}

func (x *Machine) array(_ api.Ins, got []kept.Value) {
	x.made(kept.Make(api.VArray, 0, got, x.left))
}

func (x *Machine) prog(i api.Ins, got []kept.Value) {
	x.made(kept.Make(api.VProg, i.A+1, got, x.left))
}

func (x *Machine) fill(_ api.Ins, got []kept.Value) {
	if got[0].Num < 0 {
		x.trap(api.TrapFill)
		return
	}
	x.made(kept.Fill(got[0].Num, got[1], x.left))
}

// made lays a value, if there is room for its cells.
func (x *Machine) made(v kept.Value, ok bool) {
	if x.uses(v, ok) {
		x.lay(v)
	}
}

// uses uses a value's cells, if there is room for them.
func (x *Machine) uses(v kept.Value, ok bool) bool {
	if !ok {
		x.spend(api.SpentCells)
		return false
	}
	x.left -= v.Cells()
	return true
}

func (x *Machine) part(i api.Ins, got []kept.Value) {
	slot, last := &x.running().slots[i.A], len(got)-1
	v, why, ok := slot.Set(i.List, got[:last], got[last], x.left)
	if why != 0 {
		x.trap(why)
		return
	}
	if x.uses(v, ok) {
		*slot = v
	}
}
