package parse

import (
	"squint/api"
	"squint/tree"
)

// The levels of the operators between two operands, as tree.Level tells them.
const (
	levelFirst = 1
	levelComp  = 3
	levelLast  = 5
)

func (r *reader) expr() int { return r.operands(levelFirst) }

// operands reads operands, and the operators between them that bind at least as tightly as a level.
func (r *reader) operands(least int) int {
	left := r.unary()
	most := levelLast
	for {
		n := api.Node{Kind: api.EBin, At: r.next().At, Num: between(r.text())}
		level := tree.Level(n)
		if level < least || level > most {
			return left
		}
		r.at++
		left = r.add(n, left, r.operands(level+1))
		most = level
		if level == levelComp {
			most-- // comparisons do not follow one another
		}
	}
}

// between is the operator that a sign is between two operands; 0, if it is none, which has the level 0.
func between(text string) int {
	switch text {
	case "||":
		return api.OpOr
	case "&&":
		return api.OpAnd
	case "==":
		return api.OpEq
	case "!=":
		return api.OpNe
	case "<":
		return api.OpLt
	case "<=":
		return api.OpLe
	case ">":
		return api.OpGt
	case ">=":
		return api.OpGe
	case "+":
		return api.OpAdd
	case "-":
		return api.OpSub
	case "*":
		return api.OpMul
	case "/":
		return api.OpDiv
	case "%":
		return api.OpMod
	}
	return 0
}

func (r *reader) unary() int {
	n := api.Node{Kind: api.EUnary, At: r.next().At}
	switch r.text() {
	case "-":
		n.Num = api.OpNeg
	case "!":
		n.Num = api.OpNot
	case "<-":
		n.Num = api.OpRecv
	default:
		return r.postfix()
	}
	r.at++
	return r.add(n, r.unary())
}

func (r *reader) postfix() int {
	kid := r.primary()
	for {
		switch r.text() {
		case "(":
			kid = r.call(kid)
		case "[":
			kid = r.index(kid)
		case ".":
			kid = r.field(kid)
		default:
			return kid
		}
	}
}

func (r *reader) call(called int) int {
	n := api.Node{Kind: api.ECall, At: r.next().At}
	kids := append([]int{called}, r.listed(r.expr)...)
	return r.add(n, kids...)
}

func (r *reader) index(array int) int {
	n := api.Node{Kind: api.EIndex, At: r.want("[")}
	kid := r.expr()
	r.want("]")
	return r.add(n, array, kid)
}

func (r *reader) field(tuple int) int {
	n := api.Node{Kind: api.EField, At: r.want("."), Num: r.number()}
	return r.add(n, tuple)
}

func (r *reader) primary() int {
	at := r.next().At
	switch r.text() {
	case "true":
		r.at++
		return r.add(api.Node{Kind: api.EBool, At: at, Num: 1})
	case "false":
		r.at++
		return r.add(api.Node{Kind: api.EBool, At: at})
	case "(":
		return r.paren()
	case "[":
		return r.array()
	case "fill":
		return r.fill()
	case "len":
		return r.length()
	case "make":
		r.at++
		return r.add(api.Node{Kind: api.EMake, At: at}, r.chanType())
	case "prog":
		return r.prog()
	}
	if r.next().Kind == api.TokNumber {
		return r.add(api.Node{Kind: api.EInt, At: at, Num: r.number()})
	}
	return r.add(api.Node{Kind: api.EName, At: at, Name: r.name()})
}

// paren: how many expressions stand in it tells a tuple from a parenthesis.
func (r *reader) paren() int {
	n := api.Node{Kind: api.ETuple, At: r.want("(")}
	kids := r.parted(r.expr)
	r.want(")")
	if len(kids) == 1 {
		n.Kind = api.EParen
	}
	return r.add(n, kids...)
}

func (r *reader) array() int {
	at := r.want("[")
	kids := r.parted(r.expr)
	r.want("]")
	return r.add(api.Node{Kind: api.EArray, At: at}, kids...)
}

func (r *reader) fill() int {
	at := r.want("fill")
	r.want("(")
	many := r.expr()
	r.want(",")
	element := r.expr()
	r.want(")")
	return r.add(api.Node{Kind: api.EFill, At: at}, many, element)
}

func (r *reader) length() int {
	at := r.want("len")
	r.want("(")
	kid := r.expr()
	r.want(")")
	return r.add(api.Node{Kind: api.ELen, At: at}, kid)
}

func (r *reader) prog() int {
	n := api.Node{Kind: api.EProg, At: r.want("prog")}
	if r.next().Kind == api.TokName {
		n.Name = r.name()
	}
	kids := r.listed(r.param)
	kids, n.Num = r.result(kids)
	return r.add(n, append(kids, r.block())...)
}

func (r *reader) param() int {
	n := api.Node{Kind: api.NParam, At: r.next().At, Name: r.name()}
	r.want(":")
	return r.add(n, r.typ())
}
