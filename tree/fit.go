package tree

import (
	"squint/api"
	"squint/scan"
)

func isType(kind int) bool { return kind >= api.TInt && kind <= api.TProg }

func isExpr(kind int) bool { return kind >= api.EInt && kind <= api.EField }

func isStatement(kind int) bool { return kind >= api.SVal && kind <= api.SBlock }

func isKind(kind int) bool {
	return isType(kind) || isExpr(kind) || isStatement(kind) || kind >= api.NParam && kind <= api.NProgram
}

func isArm(kind int) bool { return kind == api.NRecv || kind == api.NSend }

func isElse(kind int) bool { return kind == api.SBlock || kind == api.SIf }

// just is the class of one kind alone.
func just(kind int) func(int) bool {
	return func(k int) bool { return k == kind }
}

func numFits(n api.Node) bool {
	switch n.Kind {
	case api.TProg:
		// With 1 the last kid is the result: there must be one.
		return n.Num == 0 || n.Num == 1 && len(n.Kids) > 0
	case api.EBool, api.EProg:
		return n.Num == 0 || n.Num == 1
	case api.EInt, api.EField:
		return n.Num >= 0
	case api.EUnary, api.EBin:
		// An operator that is none of its kind's has no level.
		return Level(n) != 0
	case api.NProgram:
		return n.Num >= 0 && n.Num <= len(n.Kids)
	}
	return n.Num == 0
}

func nameFits(n api.Node) bool {
	switch n.Kind {
	case api.EProg, api.NRecv:
		if n.Name == "" {
			return true
		}
		fallthrough
	case api.TName, api.EName, api.SVal, api.SVar, api.NParam, api.NType:
		return isName(n.Name)
	}
	return n.Name == ""
}

// isName leaves it to scan what may be a name: a text that is one token, from its first byte to its last.
func isName(text string) bool {
	tokens, _ := scan.Scan([]byte(text))
	return len(tokens) == 1 && tokens[0].Kind == api.TokName && tokens[0].Len == len(text)
}

// kidsFit tells whether a node's kids, of which each is a node of the list, are so many and of such kinds as its kind wants.
func kidsFit(l []api.Node, n api.Node) bool {
	c := cursor{l: l, left: n.Kids}
	switch n.Kind {
	case api.TTuple:
		c.one(isType)
		c.one(isType)
		fallthrough
	case api.TProg:
		c.many(isType)
	case api.TArray, api.TChan, api.NParam, api.NType:
		c.one(isType)
	case api.ETuple:
		c.one(isExpr)
		fallthrough
	case api.EArray, api.ECall:
		c.one(isExpr)
		c.many(isExpr)
	case api.EFill, api.EBin, api.EIndex, api.SSet, api.SSend:
		c.one(isExpr)
		fallthrough
	case api.EParen, api.ELen, api.EUnary, api.EField, api.SVal, api.SDo, api.SBegin:
		c.one(isExpr)
	case api.EMake:
		c.one(just(api.TChan))
	case api.EProg:
		c.many(just(api.NParam))
		if n.Num == 1 {
			c.one(isType)
		}
		c.one(just(api.SBlock))
	case api.SVar:
		c.one(isType)
		fallthrough
	case api.SReturn:
		c.maybe(isExpr)
	case api.NSend:
		c.one(isExpr)
		fallthrough
	case api.SWhile, api.NRecv:
		c.one(isExpr)
		c.one(just(api.SBlock))
	case api.SIf:
		c.one(isExpr)
		c.one(just(api.SBlock))
		c.maybe(isElse)
	case api.SSelect:
		c.many(isArm)
	case api.NProgram:
		for range n.Num {
			c.one(just(api.NType))
		}
		fallthrough
	case api.SBlock:
		c.many(isStatement)
	}
	return !c.missed && len(c.left) == 0
}

// cursor goes once through a node's kids, by their kinds.
type cursor struct {
	l      []api.Node
	left   []int // the kids that are still to be taken
	missed bool  // a kid was wanted that was not there
}

// maybe takes the next kid, if it is of a class.
func (c *cursor) maybe(class func(int) bool) bool {
	if len(c.left) == 0 || !class(c.l[c.left[0]].Kind) {
		return false
	}
	c.left = c.left[1:]
	return true
}

// one takes the next kid, which must be of a class.
func (c *cursor) one(class func(int) bool) {
	if !c.maybe(class) {
		c.missed = true
	}
}

// many takes all kids of a class that are next.
func (c *cursor) many(class func(int) bool) {
	for c.maybe(class) {
	}
}
