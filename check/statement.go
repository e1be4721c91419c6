package check

import "squint/api"

func (c *checker) variable(i int) finding {
	declared := c.kid(i, 0)
	if len(c.l[i].Kids) == 2 && !c.same(c.kid(i, 1), declared) {
		return wrong(api.ErrCheckType)
	}
	return row(declared)
}

// place: whether there is one to be set comes ahead of all types.
func (c *checker) place(i int) finding {
	if !isPlace(c.l, c.l[i].Kids[0]) {
		return wrong(api.ErrCheckPlace)
	}
	return c.typed(c.set)(i)
}

func isPlace(l []api.Node, i int) bool {
	for l[i].Kind == api.EIndex || l[i].Kind == api.EField {
		i = l[i].Kids[0]
	}
	return l[i].Kind == api.EName
}

func (c *checker) set(i int) finding {
	if !c.same(c.kid(i, 1), c.kid(i, 0)) {
		return wrong(api.ErrCheckType)
	}
	return nil
}

func (c *checker) send(i int) finding {
	to := c.kidType(i, 0)
	if to.Kind != api.KChan {
		return wrong(api.ErrCheckKind)
	}
	if !c.same(c.kid(i, 1), to.Kids[0]) {
		return wrong(api.ErrCheckType)
	}
	return nil
}

func (c *checker) do(i int) finding {
	done := c.bare(c.l[i].Kids[0])
	if done.Kind == api.ECall || done.Kind == api.EUnary && done.Num == api.OpRecv {
		return nil
	}
	return wrong(api.ErrCheckIdle)
}

func (c *checker) begin(i int) finding {
	if c.bare(c.l[i].Kids[0]).Kind != api.ECall {
		return wrong(api.ErrCheckBegin)
	}
	return nil
}

func (c *checker) condition(i int) finding {
	if !c.is(c.kid(i, 0), api.KBool) {
		return wrong(api.ErrCheckType)
	}
	return nil
}

// end: whether there is an expression to be returned comes ahead of its type.
func (c *checker) end(i int) finding {
	gives := len(c.l[i].Kids) == 1
	if _, wants := c.result(i); gives != wants {
		return wrong(api.ErrCheckReturn)
	}
	if !gives {
		return nil
	}
	return c.typed(c.give)(i)
}

func (c *checker) give(i int) finding {
	if wanted, _ := c.result(i); !c.same(c.kid(i, 0), wanted) {
		return wrong(api.ErrCheckType)
	}
	return nil
}

// result is the row of the result of the prog around a node, and whether there is one. The program itself has none.
func (c *checker) result(i int) (int, bool) {
	prog := c.progs[i]
	if prog < 0 {
		return 0, false
	}
	of := c.types[c.of[prog]]
	if !of.Res {
		return 0, false
	}
	return of.Kids[len(of.Kids)-1], true
}

// receive: the row is that of the name that it declares; without one it has none.
func (c *checker) receive(i int) finding {
	from := c.kidType(i, 0)
	if from.Kind != api.KChan {
		return wrong(api.ErrCheckKind)
	}
	if c.l[i].Name == "" {
		return nil
	}
	return row(from.Kids[0])
}

// ends tells whether a statement ends: whatever way is gone in it, there is a return, or it waits for good.
func ends(l []api.Node, i int) bool {
	kids := l[i].Kids
	switch l[i].Kind {
	case api.SReturn:
		return true
	case api.SBlock:
		return len(kids) > 0 && ends(l, kids[len(kids)-1])
	case api.SIf:
		return len(kids) == 3 && ends(l, kids[1]) && ends(l, kids[2])
	case api.SSelect:
		for _, arm := range kids {
			of := l[arm].Kids
			if !ends(l, of[len(of)-1]) {
				return false
			}
		}
		return true
	}
	return false
}
