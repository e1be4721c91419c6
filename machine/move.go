package machine

import (
	"squint/api"
	"squint/value"
)

func (x *Machine) number(i api.Ins, _ []thing) { x.lay(thing{kind: api.VInt, num: i.A}) }

func (x *Machine) truth(i api.Ins, _ []thing) { x.lay(thing{kind: api.VBool, num: i.A}) }

func (x *Machine) load(i api.Ins, _ []thing) { x.lay(x.running().slots[i.A]) }

func (x *Machine) store(i api.Ins, got []thing) {
	c := x.running()
	for len(c.slots) <= i.A {
		c.slots = append(c.slots, thing{})
	}
	c.slots[i.A] = got[0]
}

func (x *Machine) empty(i api.Ins, _ []thing) { x.running().slots[i.A] = thing{} }

func (x *Machine) captured(i api.Ins, _ []thing) { x.lay(x.running().fn.at(i.A)) }

func (x *Machine) self(api.Ins, []thing) { x.lay(x.running().fn) }

func (x *Machine) drop(api.Ins, []thing) {}

func (x *Machine) length(_ api.Ins, got []thing) {
	x.lay(thing{kind: api.VInt, num: got[0].many()})
}

func (x *Machine) index(_ api.Ins, got []thing) {
	list, k := got[0], got[1].num
	if k < 0 || k >= list.many() {
		x.trap(api.TrapIndex)
		return
	}
	x.lay(list.at(k))
}

func (x *Machine) field(i api.Ins, got []thing) {
	if i.A >= got[0].many() {
		x.trap(api.TrapWrong)
		return
	}
	x.lay(got[0].at(i.A))
}

func (x *Machine) unary(i api.Ins, got []thing) {
	x.reckoned(value.Unary(i.A, got[0].head()))
}

func (x *Machine) binary(i api.Ins, got []thing) {
	x.reckoned(value.Bin(i.A, got[0].head(), got[1].head()))
}

// head is what operators look at.
func (t thing) head() api.Value { return api.Value{Kind: t.kind, Num: t.num} }

// reckoned takes what an operator answers.
func (x *Machine) reckoned(v api.Value, why int) {
	if why != 0 {
		x.trap(why)
		return
	}
	x.lay(keep(v))
}

func (x *Machine) jump(i api.Ins, _ []thing) { x.running().at = i.A }

func (x *Machine) branch(i api.Ins, got []thing) {
	if got[0].num == 0 {
		x.running().at = i.A
	}
}

func (x *Machine) back(i api.Ins, _ []thing) {
	x.running().at = i.A
	x.stop(pause{kind: api.PTick})
}
