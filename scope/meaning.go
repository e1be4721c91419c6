package scope

import "squint/api"

// meaning is what a name means that is in scope.
type meaning struct {
	decl  int      // the node that declares it, refInput or refOutput
	block int      // which of the open blocks has it, from 1 on (0: it is outside of all)
	done  int      // how many of the open progs, the outermost first, need not take it any more: it is declared in them, or they have captured it
	outer *meaning // what it hides (nil: nothing)
}

// block does what is inside of a block. Behind its end what was declared in it is out of scope, and what that hid is back.
func (w *walker) block(inside func()) {
	outer := w.declared
	w.declared = nil
	w.blocks++
	inside()
	for _, name := range w.declared {
		hidden := w.scope[name].outer
		delete(w.scope, name)
		if hidden != nil {
			w.scope[name] = hidden
		}
	}
	w.blocks--
	w.declared = outer
}

// declare puts the name of a declaration, if it has one, in the innermost block.
func (w *walker) declare(i int) {
	name := w.l[i].Name
	if name == "" {
		return
	}
	hidden := w.scope[name]
	if hidden != nil && hidden.block == w.blocks {
		w.refuse(i, api.ErrScopeTwice)
		return
	}
	w.scope[name] = &meaning{decl: i, block: w.blocks, done: len(w.gather), outer: hidden}
	w.declared = append(w.declared, name)
}

// name tells what an EName means. No prog ever takes an SVar: if one has not done with it, it is declared outside of that one.
func (w *walker) name(i int) {
	m := w.scope[w.l[i].Name]
	if m == nil {
		w.refuse(i, api.ErrScopeName)
		return
	}
	isVar := m.decl >= 0 && w.l[m.decl].Kind == api.SVar
	switch {
	case isVar && m.done < len(w.gather):
		w.refuse(i, api.ErrScopeCapture)
		return
	case !isVar && i == w.set:
		w.refuse(i, api.ErrScopeSet)
		return
	}
	w.names.Ref[i] = m.decl
	for _, take := range w.gather[m.done:] {
		take(m)
	}
	m.done = len(w.gather)
}

// capturing does what is inside of a prog, and gathers what it captures. Behind its end it is open no more: what it took, the next prog at its place has to take anew.
func (w *walker) capturing(prog int, inside func()) {
	around := len(w.gather)
	var taken []*meaning
	w.gather = append(w.gather, func(m *meaning) {
		w.names.Free[prog] = append(w.names.Free[prog], m.decl)
		taken = append(taken, m)
	})
	inside()
	w.gather = w.gather[:around]
	for _, m := range taken {
		m.done = around
	}
}
