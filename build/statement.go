package build

import "squint/api"

func (b *builder) constant(i int) {
	b.kids(i)
	b.store(i)
}

func (b *builder) variable(i int) {
	if kids := b.l[i].Kids; len(kids) == 2 {
		b.make(kids[1])
	} else {
		b.add(api.IZero, b.rows[i], 0)
	}
	b.store(i)
}

// store declares a name: its value is what was laid last.
func (b *builder) store(i int) {
	slot := b.declare()
	b.lay(i, laying{api.ILoad, slot})
	b.add(api.IStore, slot, 0)
}

func (b *builder) set(i int) {
	place, value := b.l[i].Kids[0], b.l[i].Kids[1]
	slot, path := b.place(place)
	b.make(value)
	if len(path) == 0 {
		b.add(api.IStore, slot, 0)
		return
	}
	b.add(api.IPart, slot, 0, path...)
}

// anIndex stands in a path where the number of a part is not known ahead.
const anIndex = -1

// place lays the indices of a place, and tells its name's slot, and the path from there.
func (b *builder) place(i int) (int, []int) {
	n := b.l[i]
	switch n.Kind {
	case api.EIndex:
		slot, path := b.place(n.Kids[0])
		b.make(n.Kids[1])
		return slot, append(path, anIndex)
	case api.EField:
		slot, path := b.place(n.Kids[0])
		return slot, append(path, n.Num)
	}
	// A var is always declared in the prog in which it is set.
	return b.layer(b.names.Ref[i]).a, nil
}

func (b *builder) send(i int) {
	b.kids(i)
	b.wait(sends)
}

func (b *builder) do(i int) {
	b.kids(i)
	if b.hasType(b.l[i].Kids[0]) {
		b.add(api.IPop, 0, 0)
	}
}

func (b *builder) choose(i int) {
	kids := b.l[i].Kids
	b.make(kids[0])
	isFalse := b.leave(api.IFalse)
	b.make(kids[1])
	if len(kids) == 2 {
		b.aim(isFalse)
		return
	}
	done := b.leave(api.IJump)
	b.aim(isFalse)
	b.make(kids[2])
	b.aim(done)
}

func (b *builder) repeat(i int) {
	condition, block := b.l[i].Kids[0], b.l[i].Kids[1]
	round := b.next()
	b.make(condition)
	isFalse := b.leave(api.IFalse)
	b.make(block)
	b.add(api.IBack, round, 0)
	b.aim(isFalse)
}

func (b *builder) back(i int) {
	b.kids(i)
	b.add(api.IRet, 0, 0)
}

func (b *builder) begin(i int) {
	call := b.l[i].Kids[0]
	for b.l[call].Kind == api.EParen {
		call = b.l[call].Kids[0]
	}
	b.kids(call)
	b.add(api.IBegin, len(b.l[call].Kids)-1, 0)
}

// choice waits with all arms; what each goes on with follows, one behind the other.
func (b *builder) choice(i int) {
	arms := b.l[i].Kids
	wait := b.waitAll(arms)
	var done []int
	for k, arm := range arms {
		b.Code[wait].List[2*k+1] = b.next()
		b.make(arm)
		done = append(done, b.leave(api.IJump))
	}
	for _, leaves := range done {
		b.aim(leaves)
	}
}

// waitAll lays what the arms wait with, and tells which instruction waits. Its targets are not known yet.
func (b *builder) waitAll(arms []int) int {
	var list []int
	for _, arm := range arms {
		kids := b.l[arm].Kids
		b.each(kids[:len(kids)-1])
		if b.l[arm].Kind == api.NRecv {
			list = append(list, receives, 0)
		} else {
			list = append(list, sends, 0)
		}
	}
	b.add(api.IWait, 0, 0, list...)
	return b.next() - 1
}

// received: what came lies on the stack, whether it gets a name or not.
func (b *builder) received(i int) {
	first := b.used
	if b.l[i].Name == "" {
		b.add(api.IPop, 0, 0)
	} else {
		b.store(i)
	}
	b.make(b.l[i].Kids[1])
	b.end(first)
}

func (b *builder) sent(i int) { b.make(b.l[i].Kids[2]) }

func (b *builder) block(i int) {
	first := b.used
	b.kids(i)
	b.end(first)
}
