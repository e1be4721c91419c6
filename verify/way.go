package verify

import (
	"squint/api"
	"squint/code"
)

// wrongWay tells the first instruction that is wrong in the way it is come to, or goes on.
func wrongWay(u api.Unit) (int, int, api.Errno) {
	longest := 0
	for _, p := range u.Progs {
		longest = max(longest, len(p.Code))
	}
	w := newWalker(longest)
	for n, p := range u.Progs {
		if at, why := w.follow(p); why != api.OK {
			return n, at, why
		}
	}
	return 0, 0, api.OK
}

// way is how an instruction is come to. Above is 1 more than the height of the stack, so that the zero way is that of one that is not come to.
type way struct {
	above int
	slots slots
}

// walker follows all ways through a prog's code.
type walker struct {
	prog  api.Prog
	known []way // of each instruction
	due   due   // those that are come to and were not looked at
	sets  sets
}

func newWalker(longest int) *walker {
	return &walker{known: make([]way, longest), due: newDue(longest)}
}

// follow tells the first instruction of a prog that is wrong. If it tells none, nothing is due any more, and it may follow another prog.
func (w *walker) follow(p api.Prog) (int, api.Errno) {
	w.prog = p
	w.sets.begin(p.Slots)
	clear(w.known[:len(p.Code)])
	w.come(0, way{1, w.sets.first(p.Params)})
next:
	at, is := w.due.take()
	if !is {
		return 0, api.OK
	}
	if why := w.look(at); why != api.OK {
		return at, why
	}
	goto next
}

// come comes to an instruction; false, if it was come to already in another way.
func (w *walker) come(at int, by way) bool {
	if w.known[at].above == 0 {
		w.known[at] = by
		w.due.add(at)
	}
	return w.known[at] == by
}

func (w *walker) look(at int) api.Errno {
	i, by := w.prog.Code[at], w.known[at]
	takes := code.Pops(i)
	switch {
	case by.above-1 < takes || i.Op == api.IRet && by.above-1 != w.results():
		return api.ErrVerifyStack
	case needsValue(i.Op) && !w.sets.has(by.slots, i.A):
		return api.ErrVerifySlot
	case goesBehind(i.Op) && at == len(w.prog.Code)-1:
		return api.ErrVerifyEnd
	}
	by.above += code.Pushes(i) - takes
	by.slots = w.slotsPast(i, by.slots)
	if !w.goOn(at, by) {
		return api.ErrVerifyMerge
	}
	return api.OK
}

// results is how many values are on the stack where the prog ends.
func (w *walker) results() int {
	if w.prog.Res {
		return 1
	}
	return 0
}

// needsValue tells whether an operation wants a value in its slot.
func needsValue(op int) bool { return op == api.ILoad || op == api.IClear || op == api.IPart }

// goesBehind tells whether an operation may go on with the instruction behind it without naming it.
func goesBehind(op int) bool {
	switch op {
	case api.IJump, api.IBack, api.IRet, api.IWait:
		return false
	}
	return true
}

// slotsPast are the slots that have a value behind an instruction.
func (w *walker) slotsPast(i api.Ins, s slots) slots {
	switch i.Op {
	case api.IStore:
		return w.sets.with(s, i.A)
	case api.IClear:
		return w.sets.without(s, i.A)
	}
	return s
}

// goOn comes to all with which an instruction goes on; false, if one was come to already in another way.
func (w *walker) goOn(at int, by way) bool {
	i := w.prog.Code[at]
	switch i.Op {
	case api.IRet:
		return true
	case api.IJump, api.IBack:
		return w.come(i.A, by)
	case api.IFalse:
		return w.come(at+1, by) && w.come(i.A, by)
	case api.IWait:
		return w.fork(i.List, by)
	}
	return w.come(at+1, by)
}

// fork comes to the targets of a wait's arms.
func (w *walker) fork(list []int, by way) bool {
	received := by
	received.above++
	for arm := 0; arm < len(list); arm += 2 {
		one := by
		if list[arm] == 0 {
			one = received
		}
		if !w.come(list[arm+1], one) {
			return false
		}
	}
	return true
}
