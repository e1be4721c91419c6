package machine

import (
	"squint/api"
	"squint/kept"
	"squint/value"
)

func (x *Machine) number(i api.Ins, _ []kept.Value) { x.lay(kept.Int(i.A)) }

func (x *Machine) truth(i api.Ins, _ []kept.Value) { x.lay(kept.Bool(i.A)) }

func (x *Machine) load(i api.Ins, _ []kept.Value) { x.lay(x.running().slots[i.A]) }

func (x *Machine) store(i api.Ins, got []kept.Value) {
	c := x.running()
	for len(c.slots) <= i.A {
		c.slots = append(c.slots, kept.Value{})
	}
	c.slots[i.A] = got[0]
}

func (x *Machine) empty(i api.Ins, _ []kept.Value) { x.running().slots[i.A] = kept.Value{} }

func (x *Machine) captured(i api.Ins, _ []kept.Value) { x.lay(x.running().fn.At(i.A)) }

func (x *Machine) self(api.Ins, []kept.Value) { x.lay(x.running().fn) }

func (x *Machine) drop(api.Ins, []kept.Value) {}

func (x *Machine) length(_ api.Ins, got []kept.Value) {
	x.lay(kept.Int(got[0].Many()))
}

func (x *Machine) index(_ api.Ins, got []kept.Value) {
	list, k := got[0], got[1].Num
	if k < 0 || k >= list.Many() {
		x.trap(api.TrapIndex)
		return
	}
	x.lay(list.At(k))
}

func (x *Machine) field(i api.Ins, got []kept.Value) {
	if i.A >= got[0].Many() {
		x.trap(api.TrapWrong)
		return
	}
	x.lay(got[0].At(i.A))
}

func (x *Machine) unary(i api.Ins, got []kept.Value) {
	x.reckoned(value.Unary(i.A, got[0].Head()))
}

func (x *Machine) binary(i api.Ins, got []kept.Value) {
	x.reckoned(value.Bin(i.A, got[0].Head(), got[1].Head()))
}

// reckoned takes what an operator answers.
func (x *Machine) reckoned(v api.Value, why int) {
	if why != 0 {
		x.trap(why)
		return
	}
	x.lay(kept.Keep(v))
}

func (x *Machine) jump(i api.Ins, _ []kept.Value) { x.running().at = i.A }

func (x *Machine) branch(i api.Ins, got []kept.Value) {
	if got[0].Num == 0 {
		x.running().at = i.A
	}
}

func (x *Machine) back(i api.Ins, _ []kept.Value) {
	x.running().at = i.A
	x.stop(pause{kind: api.PTick})
}
