package tree

import (
	"strconv"
	"strings"

	"squint/api"
)

// Print is a tree's source, each two tokens parted by a blank.
func Print(l []api.Node) (string, api.Errno) {
	if _, code := Check(l); code != api.OK {
		return "", code
	}
	p := printer{l: l}
	p.node(len(l) - 1)
	return p.out.String(), api.OK
}

// printer writes a tree that Check takes.
type printer struct {
	l   []api.Node
	out strings.Builder
}

// lay lays tokens down behind those that stand there.
func (p *printer) lay(tokens ...string) {
	for _, t := range tokens {
		if p.out.Len() > 0 {
			p.out.WriteByte(' ')
		}
		p.out.WriteString(t)
	}
}

// list lays nodes down between two tokens, parted by commas.
func (p *printer) list(open string, kids []int, shut string) {
	p.lay(open)
	for i, k := range kids {
		if i > 0 {
			p.lay(",")
		}
		p.node(k)
	}
	p.lay(shut)
}

// row lays nodes down one behind the other.
func (p *printer) row(kids []int) {
	for _, k := range kids {
		p.node(k)
	}
}

func (p *printer) node(k int) {
	n := p.l[k]
	switch {
	case isType(n.Kind):
		p.typ(n)
	case isExpr(n.Kind):
		p.expr(n)
	case isStatement(n.Kind):
		p.statement(n)
	default:
		p.other(n)
	}
}

func (p *printer) typ(n api.Node) {
	switch n.Kind {
	case api.TInt:
		p.lay("int")
	case api.TBool:
		p.lay("bool")
	case api.TName:
		p.lay(n.Name)
	case api.TArray:
		p.lay("array", "of")
		p.row(n.Kids)
	case api.TChan:
		p.lay("chan", "of")
		p.row(n.Kids)
	case api.TTuple:
		p.list("(", n.Kids, ")")
	case api.TProg:
		params := len(n.Kids) - n.Num
		p.lay("prog")
		p.list("(", n.Kids[:params], ")")
		p.result(n.Kids[params:])
	}
}

// result lays down the type of a prog's result, if there is one.
func (p *printer) result(kids []int) {
	if len(kids) > 0 {
		p.lay(":")
		p.row(kids)
	}
}

func (p *printer) expr(n api.Node) {
	switch n.Kind {
	case api.EInt:
		p.lay(strconv.Itoa(n.Num))
	case api.EBool:
		p.lay(strconv.FormatBool(n.Num == 1))
	case api.EName:
		p.lay(n.Name)
	case api.EParen, api.ETuple:
		p.list("(", n.Kids, ")")
	case api.EArray:
		p.list("[", n.Kids, "]")
	case api.EFill:
		p.lay("fill")
		p.list("(", n.Kids, ")")
	case api.ELen:
		p.lay("len")
		p.list("(", n.Kids, ")")
	case api.EMake:
		p.lay("make")
		p.row(n.Kids)
	case api.EProg:
		p.prog(n)
	case api.EUnary:
		p.lay(operator(n.Num))
		p.row(n.Kids)
	case api.EBin:
		p.both(n, operator(n.Num))
	case api.ECall:
		p.node(n.Kids[0])
		p.list("(", n.Kids[1:], ")")
	case api.EIndex:
		p.node(n.Kids[0])
		p.list("[", n.Kids[1:], "]")
	case api.EField:
		p.node(n.Kids[0])
		p.lay(".", strconv.Itoa(n.Num))
	}
}

func (p *printer) prog(n api.Node) {
	body := len(n.Kids) - 1
	params := body - n.Num
	p.lay("prog")
	if n.Name != "" {
		p.lay(n.Name)
	}
	p.list("(", n.Kids[:params], ")")
	p.result(n.Kids[params:body])
	p.node(n.Kids[body])
}

// operator is an operator's token.
func operator(op int) string {
	switch op {
	case api.OpNeg, api.OpSub:
		return "-"
	case api.OpNot:
		return "!"
	case api.OpRecv:
		return "<-"
	case api.OpOr:
		return "||"
	case api.OpAnd:
		return "&&"
	case api.OpEq:
		return "=="
	case api.OpNe:
		return "!="
	case api.OpLt:
		return "<"
	case api.OpLe:
		return "<="
	case api.OpGt:
		return ">"
	case api.OpGe:
		return ">="
	case api.OpAdd:
		return "+"
	case api.OpMul:
		return "*"
	case api.OpDiv:
		return "/"
	}
	return "%"
}

func (p *printer) statement(n api.Node) {
	switch n.Kind {
	case api.SVal:
		p.lay("val", n.Name, "=")
		p.row(n.Kids)
		p.lay(";")
	case api.SVar:
		p.lay("var", n.Name, ":")
		p.node(n.Kids[0])
		if len(n.Kids) > 1 {
			p.lay("=")
			p.node(n.Kids[1])
		}
		p.lay(";")
	case api.SSet:
		p.both(n, "=")
		p.lay(";")
	case api.SSend:
		p.both(n, "<-=")
		p.lay(";")
	case api.SDo:
		p.row(n.Kids)
		p.lay(";")
	case api.SIf:
		p.lay("if")
		p.row(n.Kids[:2])
		if len(n.Kids) > 2 {
			p.lay("else")
			p.node(n.Kids[2])
		}
	case api.SWhile:
		p.lay("while")
		p.row(n.Kids)
	case api.SReturn:
		p.lay("return")
		p.row(n.Kids)
		p.lay(";")
	case api.SBegin:
		p.lay("begin")
		p.row(n.Kids)
		p.lay(";")
	case api.SSelect:
		p.lay("select", "{")
		p.row(n.Kids)
		p.lay("}")
	case api.SBlock:
		p.lay("{")
		p.row(n.Kids)
		p.lay("}")
	}
}

// both lays down a node's first two kids, with a sign between.
func (p *printer) both(n api.Node, sign string) {
	p.node(n.Kids[0])
	p.lay(sign)
	p.node(n.Kids[1])
}

func (p *printer) other(n api.Node) {
	switch n.Kind {
	case api.NParam:
		p.lay(n.Name, ":")
		p.row(n.Kids)
	case api.NRecv:
		p.lay("case")
		if n.Name != "" {
			p.lay(n.Name, "=")
		}
		p.lay("<-")
		p.row(n.Kids)
	case api.NSend:
		p.lay("case")
		p.both(n, "<-=")
		p.node(n.Kids[2])
	case api.NType:
		p.lay("type", n.Name, "=")
		p.row(n.Kids)
		p.lay(";")
	case api.NProgram:
		p.row(n.Kids)
	}
}
