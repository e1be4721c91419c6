package walk

import (
	"slices"

	"squint/api"
	"squint/kept"
)

// valued is the doer of a node that has a type.
func (p *planner) valued(k, row int) doer {
	n := p.l[k]
	of := p.of(n.Kids)
	switch n.Kind {
	case api.EInt:
		return constant{kept.Int(n.Num)}
	case api.EBool:
		return constant{kept.Bool(n.Num)}
	case api.EParen:
		return paren{of[0]}
	case api.ETuple:
		return listing{of, api.VTuple}
	case api.EArray:
		return listing{of, api.VArray}
	case api.EFill:
		return filling{of}
	case api.ELen:
		return length{of}
	case api.EMake:
		return making{}
	case api.EUnary:
		return unaryOf(n.Num, of)
	case api.EBin:
		return binaryOf(n.Num, of)
	case api.ECall:
		return calling{of, true}
	case api.EIndex:
		return indexing{of}
	case api.EField:
		return part{of, n.Num}
	case api.SVal:
		return declaring{of}
	case api.SVar:
		if len(of) == 1 {
			return blank{p.zeros[row]}
		}
		return declaring{of[1:]}
	}
	return nil
}

func unaryOf(op int, of kids) doer {
	if op == api.OpRecv {
		return receiving{of}
	}
	return unary{of, op}
}

func binaryOf(op int, of kids) doer {
	switch op {
	case api.OpAnd:
		return deciding{of[0], of[1], 0}
	case api.OpOr:
		return deciding{of[0], of[1], 1}
	}
	return binary{of, op}
}

func branchingOf(of kids) doer {
	if len(of) == 2 {
		return branching{condition: of[0], yes: of[1]}
	}
	return branching{of[0], of[1], of[2]}
}

// plain is the doer of a node that has none.
func (p *planner) plain(k int) doer {
	n := p.l[k]
	of := p.of(n.Kids)
	switch n.Kind {
	case api.EParen:
		return paren{of[0]}
	case api.ECall:
		return calling{of, false}
	case api.SSet:
		return p.setting(n)
	case api.SSend:
		return sending{of}
	case api.SDo:
		return dropping{of}
	case api.SIf:
		return branchingOf(of)
	case api.SWhile:
		return looping{of[0], of[1]}
	case api.SReturn:
		return returning{of}
	case api.SBegin:
		return p.beginning(n.Kids[0])
	case api.SSelect:
		return p.choosing(n.Kids)
	case api.SBlock:
		return p.block(k, p.ahead[k])
	case api.NProgram:
		return body{blocking{of[n.Num:], 0}}
	}
	return nil
}

// setting is an SSet's.
func (p *planner) setting(n api.Node) doer {
	d := setting{kids: kids{p.doers[n.Kids[1]]}}
	place := n.Kids[0]
	for p.l[place].Kind != api.EName {
		switch one := p.l[place]; one.Kind {
		case api.EIndex:
			d.path = append(d.path, -1)
			d.kids = append(d.kids, p.doers[one.Kids[1]])
		case api.EField:
			d.path = append(d.path, one.Num)
		}
		place = p.l[place].Kids[0]
	}
	// They were found from the last one on.
	slices.Reverse(d.path)
	slices.Reverse(d.kids)
	d.slot = p.ahead[p.names.Ref[place]]
	return d
}

// beginning is that of an SBegin with a call, in parentheses or not.
func (p *planner) beginning(k int) doer {
	for p.l[k].Kind == api.EParen {
		k = p.l[k].Kids[0]
	}
	return beginning{p.of(p.l[k].Kids)}
}

// choosing is that of an SSelect with arms.
func (p *planner) choosing(arms []int) doer {
	var d choosing
	for _, k := range arms {
		n, last := p.l[k], len(p.l[k].Kids)-1
		d.kids = append(d.kids, p.of(n.Kids[:last])...)
		d.arms = append(d.arms, side{
			send:  n.Kind == api.NSend,
			named: n.Name != "",
			block: p.block(n.Kids[last], p.ahead[k]),
		})
	}
	return d
}
