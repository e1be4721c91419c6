package check

import (
	"squint/api"
	"squint/kinds"
)

// question is what is asked of a node of some kind.
func (c *checker) question(kind int) func(i int) finding {
	switch kind {
	case api.EInt:
		return c.number
	case api.EBool:
		return c.truth
	case api.EName:
		return c.name
	case api.EParen, api.EMake, api.NParam:
		return c.asKid
	case api.ETuple:
		return c.typed(c.tuple)
	case api.EArray:
		return c.typed(c.array)
	case api.EFill:
		return c.typed(c.fill)
	case api.ELen:
		return c.typed(c.length)
	case api.EProg:
		return c.prog
	case api.EUnary:
		return c.typed(c.unary)
	case api.EBin:
		return c.typed(c.binary)
	case api.ECall:
		return c.typed(c.call)
	case api.EIndex:
		return c.typed(c.index)
	case api.EField:
		return c.typed(c.field)
	}
	return c.statement(kind)
}

// statement is what is asked of a node that is no expression.
func (c *checker) statement(kind int) func(i int) finding {
	switch kind {
	case api.SVal:
		return c.typed(c.asKid)
	case api.SVar:
		return c.typed(c.variable)
	case api.SSet:
		return c.place
	case api.SSend, api.NSend:
		return c.typed(c.send)
	case api.SDo:
		return c.do
	case api.SIf, api.SWhile:
		return c.typed(c.condition)
	case api.SReturn:
		return c.end
	case api.SBegin:
		return c.begin
	case api.NRecv:
		return c.typed(c.receive)
	}
	return c.nothing
}

// typed asks, ahead of a question, whether each kid that is an expression has a type.
func (c *checker) typed(ask func(i int) finding) func(i int) finding {
	return func(i int) finding {
		for _, kid := range c.l[i].Kids {
			if isExpr(c.l[kid].Kind) && c.of[kid] < 0 {
				return wrong(api.ErrCheckNone)
			}
		}
		return ask(i)
	}
}

func isExpr(kind int) bool { return kind >= api.EInt && kind <= api.EField }

func (c *checker) nothing(int) finding { return nil }

// kid is the row of a node's kid.
func (c *checker) kid(i, k int) int { return c.of[c.l[i].Kids[k]] }

// kidType is the type of a node's kid, which has one.
func (c *checker) kidType(i, k int) api.Type { return c.types[c.kid(i, k)] }

// is tells whether a row is of a kind. Of ints there is but one type, and of bools, so that their kind says all.
func (c *checker) is(r, kind int) bool { return c.types[r].Kind == kind }

// same tells whether two rows are the same type. That a row is the same as itself need not be asked.
func (c *checker) same(a, b int) bool {
	return a == b || kinds.Same(c.types, a, b)
}

// bare is an expression without the parentheses about it.
func (c *checker) bare(i int) api.Node {
	for c.l[i].Kind == api.EParen {
		i = c.l[i].Kids[0]
	}
	return c.l[i]
}
