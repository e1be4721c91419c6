package walk

import (
	"slices"

	"squint/api"
	"squint/kept"
)

// plan is what all processes of a program share; nobody ever changes it.
type plan struct {
	first *prog   // the program
	progs []*prog // the others, by their nodes' numbers; nil of a node that is no prog
}

// prog is a program, or an EProg.
type prog struct {
	params, caps int
	result       bool
	body         doer
}

// planner gives each node of a tree its doer.
type planner struct {
	l     []api.Node
	types api.Typed
	names api.Names
	zeros []kept.Value // the types' default values
	// Of each node: the prog in which it stands, and how many names that are declared there are in scope ahead of it. (So that is where the value of a name that it declares stands.)
	within, ahead []int
	doers         []doer
	progs         []*prog
}

func newPlan(l []api.Node, types api.Typed, names api.Names) *plan {
	many := len(l)
	p := &planner{
		l: l, types: types, names: names, zeros: kept.Zeros(types.Types),
		within: make([]int, many), ahead: make([]int, many), doers: make([]doer, many), progs: make([]*prog, many),
	}
	p.within[many-1] = many - 1
	// Each node stands behind all that stands in it: from the last one on it can be told of each where it stands, from the first one on how to go on with it.
	for k := many - 1; k >= 0; k-- {
		p.place(k)
	}
	for k := range l {
		p.doers[k] = p.doer(k)
	}
	return &plan{&prog{body: p.doers[many-1]}, p.progs}
}

// place tells where the kids of a node stand.
func (p *planner) place(k int) {
	n, within, names := p.l[k], p.within[k], p.ahead[k]
	if n.Kind == api.EProg {
		within, names = k, 0
	}
	for _, kid := range n.Kids {
		if n.Kind == api.NRecv && n.Name != "" && p.l[kid].Kind == api.SBlock {
			names++
		}
		p.within[kid], p.ahead[kid] = within, names
		switch p.l[kid].Kind {
		case api.NParam, api.SVal, api.SVar:
			names++
		}
	}
}

// What check has found a node to be.
type (
	name  struct{ to int }      // an EName: what it means
	taker struct{ takes []int } // an EProg: what it captures
	typed struct{ row int }     // another one that has a type
	bare  struct{}              // one that has none
)

func (p *planner) found(k int) any {
	switch {
	case p.l[k].Kind == api.EName:
		return name{p.names.Ref[k]}
	case p.l[k].Kind == api.EProg:
		return taker{p.names.Free[k]}
	case p.types.Of[k] >= 0:
		return typed{p.types.Of[k]}
	}
	return bare{}
}

// doer is the thing of a node, of which all that stands in it have theirs; none of one that is never gone on with.
func (p *planner) doer(k int) doer {
	switch f := p.found(k).(type) {
	case name:
		return p.reference(f.to, p.within[k])
	case taker:
		return p.prog(k, f.takes)
	case typed:
		return p.valued(k, f.row)
	case bare:
		return p.plain(k)
	}
	return nil
}

// reference is where the value of what is declared at a node stands, in a prog.
func (p *planner) reference(to, within int) reference {
	switch {
	case to == within:
		return itself{}
	case to >= 0 && p.within[to] == within:
		return own{p.ahead[to]}
	case p.l[within].Kind == api.NProgram:
		// The ports: input is told as -2, output as -3.
		return captured{-2 - to}
	}
	return captured{slices.Index(p.names.Free[within], to)}
}

// prog is an EProg's.
func (p *planner) prog(k int, takes []int) doer {
	n, last := p.l[k], len(p.l[k].Kids)-1
	params := last - n.Num
	p.progs[k] = &prog{params: params, caps: len(takes), result: n.Num == 1, body: body{p.doers[n.Kids[last]]}}
	d := closing{num: k + 1}
	for _, to := range takes {
		d.takes = append(d.takes, p.reference(to, p.within[k]))
	}
	return d
}

// of are the doers of nodes.
func (p *planner) of(nodes []int) kids {
	var out kids
	for _, k := range nodes {
		out = append(out, p.doers[k])
	}
	return out
}

// block is an SBlock's, of which it is told how many names are in scope behind it.
func (p *planner) block(k, names int) doer {
	return blocking{p.of(p.l[k].Kids), names}
}
