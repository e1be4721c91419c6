package tree

import "squint/api"

// The levels, from what binds least to what binds most; 0 is no expression's.
const (
	levelOr = iota + 1
	levelAnd
	levelComp
	levelSum
	levelTerm
	levelUnary
	levelPostfix
	levelPrimary
)

// Level tells how tightly an expression binds; 0, if a kind (with its Num) is none.
func Level(n api.Node) int {
	switch n.Kind {
	case api.EBin:
		return binLevel(n.Num)
	case api.EUnary:
		if n.Num >= api.OpNeg && n.Num <= api.OpRecv {
			return levelUnary
		}
		return 0
	case api.ECall, api.EIndex, api.EField:
		return levelPostfix
	}
	if isExpr(n.Kind) {
		return levelPrimary
	}
	return 0
}

func binLevel(op int) int {
	switch {
	case op == api.OpOr:
		return levelOr
	case op == api.OpAnd:
		return levelAnd
	case op >= api.OpEq && op <= api.OpGe:
		return levelComp
	case op == api.OpAdd || op == api.OpSub:
		return levelSum
	case op >= api.OpMul && op <= api.OpMod:
		return levelTerm
	}
	return 0
}

// levelsFit tells whether all kids of a node, which are of the kinds that it wants, bind as tightly as their places want.
func levelsFit(l []api.Node, n api.Node) bool {
	for place, k := range n.Kids {
		if Level(l[k]) < wanted(n, place) {
			return false
		}
	}
	return n.Kind != api.NSend || !beginsWithRecv(l, n.Kids[0])
}

// wanted is the least level of a node's kid at a place. It is 0 where every expression may stand, so that what is no expression passes there too.
func wanted(n api.Node, place int) int {
	switch n.Kind {
	case api.EBin:
		return wantedByBin(Level(n), place)
	case api.EUnary:
		return levelUnary
	case api.ECall, api.EIndex, api.EField:
		if place == 0 {
			return levelPostfix
		}
	case api.NRecv:
		if place == 0 {
			return levelUnary
		}
	}
	return 0
}

// wantedByBin: an operator's left side may be of its own level, as they are read from the left on; but comparisons do not follow one another.
func wantedByBin(level, place int) int {
	if place == 0 && level != levelComp {
		return level
	}
	return level + 1
}

// beginsWithRecv tells whether an expression's first token is `<-`: an arm that begins so would be read as one that receives.
func beginsWithRecv(l []api.Node, k int) bool {
	for {
		switch l[k].Kind {
		case api.EBin, api.ECall, api.EIndex, api.EField:
			k = l[k].Kids[0]
		default:
			return l[k].Kind == api.EUnary && l[k].Num == api.OpRecv
		}
	}
}
