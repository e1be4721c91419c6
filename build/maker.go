package build

import "squint/api"

// builder makes the code of one prog of a program.
type builder struct {
	*program
	prog
}

// maker makes the code of a node of some kind.
type maker func(b *builder, i int)

// makers are those of each kind. Types have none: nothing is done where they stand.
func makers() [api.NProgram + 1]maker {
	return [api.NProgram + 1]maker{
		api.EInt:   (*builder).number,
		api.EBool:  (*builder).truth,
		api.EName:  (*builder).name,
		api.EParen: (*builder).kids,
		api.ETuple: (*builder).tuple,
		api.EArray: (*builder).array,
		api.EFill:  (*builder).fill,
		api.ELen:   (*builder).length,
		api.EMake:  (*builder).channel,
		api.EProg:  (*builder).value,
		api.EUnary: (*builder).unary,
		api.EBin:   (*builder).binary,
		api.ECall:  (*builder).call,
		api.EIndex: (*builder).index,
		api.EField: (*builder).field,

		api.SVal:    (*builder).constant,
		api.SVar:    (*builder).variable,
		api.SSet:    (*builder).set,
		api.SSend:   (*builder).send,
		api.SDo:     (*builder).do,
		api.SIf:     (*builder).choose,
		api.SWhile:  (*builder).repeat,
		api.SReturn: (*builder).back,
		api.SBegin:  (*builder).begin,
		api.SSelect: (*builder).choice,
		api.SBlock:  (*builder).block,
		api.NRecv:   (*builder).received,
		api.NSend:   (*builder).sent,
	}
}

func (b *builder) make(i int) {
	by := b.makers[b.l[i].Kind]
	by(b, i)
}

func (b *builder) each(nodes []int) {
	for _, i := range nodes {
		b.make(i)
	}
}

// kids are done from the left to the right, each behind the one ahead of it.
func (b *builder) kids(i int) { b.each(b.l[i].Kids) }

// body is what a prog does, and its end. (Of a prog that ends on every way that is come to by none.)
func (b *builder) body(statements []int) {
	b.each(statements)
	b.add(api.IRet, 0, 0)
}
