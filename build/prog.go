package build

import "squint/api"

// prog is a prog of the unit as far as it is made.
type prog struct {
	api.Prog

	// How many names are in scope behind the last instruction. These have the first slots, so that a name's slot is free again where its block has ended.
	used int
}

func (p *prog) add(op, a, b int, list ...int) {
	p.Code = append(p.Code, api.Ins{Op: op, A: a, B: b, List: list})
}

// declare finds a slot for a name that is in scope from here on.
func (p *prog) declare() int {
	slot := p.used
	p.used++
	p.Slots = max(p.Slots, p.used)
	return slot
}

// end: where a block ends, nothing may be held any more by the names behind the first ones, which were there ahead of it.
func (p *prog) end(first int) {
	for slot := first; slot < p.used; slot++ {
		p.add(api.IClear, slot, 0)
	}
	p.used = first
}

// next is the number of the instruction that comes next.
func (p *prog) next() int { return len(p.Code) }

// leave goes on further on, at a target that aim tells later.
func (p *prog) leave(op int) int {
	p.add(op, 0, 0)
	return p.next() - 1
}

// aim: what comes next is the target of an instruction that leaves.
func (p *prog) aim(leaves int) { p.Code[leaves].A = p.next() }

// The directions of IWait's arms.
const (
	receives = 0
	sends    = 1
)

// wait waits with one arm, and goes on behind it.
func (p *prog) wait(direction int) {
	p.add(api.IWait, 0, 0, direction, p.next()+1)
}
