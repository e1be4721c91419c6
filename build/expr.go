package build

import "squint/api"

func (b *builder) number(i int) { b.add(api.IInt, b.l[i].Num, 0) }

func (b *builder) truth(i int) { b.add(api.IBool, b.l[i].Num, 0) }

func (b *builder) name(i int) { b.layValue(b.names.Ref[i]) }

func (b *builder) layValue(declaration int) {
	by := b.layer(declaration)
	b.add(by.op, by.a, 0)
}

func (b *builder) tuple(i int) {
	b.kids(i)
	b.add(api.ITuple, len(b.l[i].Kids), 0)
}

func (b *builder) array(i int) {
	b.kids(i)
	b.add(api.IArray, len(b.l[i].Kids), 0)
}

func (b *builder) fill(i int) {
	b.kids(i)
	b.add(api.IFill, 0, 0)
}

func (b *builder) length(i int) {
	b.kids(i)
	b.add(api.ILen, 0, 0)
}

func (b *builder) channel(int) { b.add(api.IMake, 0, 0) }

// value is a prog's: its code is made on its own.
func (b *builder) value(i int) {
	free := b.names.Free[i]
	for _, declaration := range free {
		b.layValue(declaration)
	}
	b.add(api.IProg, b.numbers[i], len(free))
}

func (b *builder) unary(i int) {
	b.kids(i)
	op := b.l[i].Num
	if op == api.OpRecv {
		b.wait(receives)
		return
	}
	b.add(api.IUnary, op, 0)
}

func (b *builder) binary(i int) {
	switch op := b.l[i].Num; op {
	case api.OpAnd:
		b.and(b.l[i].Kids[0], b.l[i].Kids[1])
	case api.OpOr:
		b.or(b.l[i].Kids[0], b.l[i].Kids[1])
	default:
		b.kids(i)
		b.add(api.IBin, op, 0)
	}
}

func (b *builder) and(left, right int) {
	b.make(left)
	isFalse := b.leave(api.IFalse)
	b.make(right)
	done := b.leave(api.IJump)
	b.aim(isFalse)
	b.add(api.IBool, 0, 0)
	b.aim(done)
}

func (b *builder) or(left, right int) {
	b.make(left)
	isFalse := b.leave(api.IFalse)
	b.add(api.IBool, 1, 0)
	done := b.leave(api.IJump)
	b.aim(isFalse)
	b.make(right)
	b.aim(done)
}

func (b *builder) call(i int) {
	b.kids(i)
	result := 0
	if b.hasType(i) {
		result = 1
	}
	b.add(api.ICall, len(b.l[i].Kids)-1, result)
}

// hasType is false of an expression that lays no value: a call of a prog without a result.
func (b *builder) hasType(i int) bool { return b.rows[i] >= 0 }

func (b *builder) index(i int) {
	b.kids(i)
	b.add(api.IIndex, 0, 0)
}

func (b *builder) field(i int) {
	b.kids(i)
	b.add(api.IField, b.l[i].Num, 0)
}
