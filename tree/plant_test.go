package tree_test

import (
	"squint/api"
)

// plant is a tree as it is thought of: each node with its kids, in no list.
type plant struct {
	node api.Node
	kids []*plant
}

func grow(kind int, name string, num int, kids ...*plant) *plant {
	return &plant{api.Node{Kind: kind, Name: name, Num: num}, kids}
}

func nameOf(s string) *plant { return grow(api.EName, s, 0) }

func number(k int) *plant { return grow(api.EInt, "", k) }

func unary(op int, kid *plant) *plant { return grow(api.EUnary, "", op, kid) }

func bin(op int, a, b *plant) *plant { return grow(api.EBin, "", op, a, b) }

func paren(kid *plant) *plant { return grow(api.EParen, "", 0, kid) }

func call(f *plant, args ...*plant) *plant {
	return grow(api.ECall, "", 0, append([]*plant{f}, args...)...)
}

func do(kid *plant) *plant { return grow(api.SDo, "", 0, kid) }

func block(kids ...*plant) *plant { return grow(api.SBlock, "", 0, kids...) }

func program(kids ...*plant) *plant { return grow(api.NProgram, "", 0, kids...) }

// list is a plant in its order.
func (p *plant) list() []api.Node {
	return p.lay(nil)
}

func (p *plant) lay(l []api.Node) []api.Node {
	n := p.node
	for _, kid := range p.kids {
		l = kid.lay(l)
		n.Kids = append(n.Kids, len(l)-1)
	}
	return append(l, n)
}

// copyOf is a list that shares nothing with another one.
func copyOf(l []api.Node) []api.Node {
	out := append([]api.Node(nil), l...)
	for i := range out {
		out[i].Kids = append([]int(nil), out[i].Kids...)
	}
	return out
}

// lettered are the classes of nodes that the chapter's table tells apart, a letter each.
func lettered(letter rune) *plant {
	x := nameOf("x")
	switch letter {
	case 'T':
		return grow(api.TInt, "", 0)
	case 'C':
		return grow(api.TChan, "", 0, grow(api.TInt, "", 0))
	case 'E':
		return x
	case 'S':
		return do(x)
	case 'B':
		return block(do(x))
	case 'I':
		return grow(api.SIf, "", 0, x, block())
	case 'P':
		return grow(api.NParam, "p", 0, grow(api.TInt, "", 0))
	case 'R':
		return grow(api.NRecv, "", 0, x, block())
	case 'N':
		return grow(api.NSend, "", 0, x, x, block())
	case 'Y':
		return grow(api.NType, "Y", 0, grow(api.TInt, "", 0))
	}
	return program()
}

// letter is the letter of a kind.
func letter(kind int) string {
	switch {
	case kind == api.TChan:
		return "C"
	case kind >= api.TInt && kind <= api.TProg:
		return "T"
	case kind >= api.EInt && kind <= api.EField:
		return "E"
	case kind == api.SBlock:
		return "B"
	case kind == api.SIf:
		return "I"
	case kind >= api.SVal && kind <= api.SBlock:
		return "S"
	}
	switch kind {
	case api.NParam:
		return "P"
	case api.NRecv:
		return "R"
	case api.NSend:
		return "N"
	case api.NType:
		return "Y"
	}
	return "Z"
}

// kidsOf are the kids that letters ask for.
func kidsOf(letters string) []*plant {
	var out []*plant
	for _, r := range letters {
		out = append(out, lettered(r))
	}
	return out
}
