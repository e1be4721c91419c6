package check

import "squint/api"

// What scope tells of a name that no node declares.
const (
	refInput  = -2
	refOutput = -3
)

func (c *checker) number(int) finding { return row(c.intRow) }

func (c *checker) truth(int) finding { return row(c.boolRow) }

// name: what it means was come to ahead of it.
func (c *checker) name(i int) finding {
	switch decl := c.ref[i]; decl {
	case refInput, refOutput:
		return row(c.chanRow)
	default:
		return row(c.of[decl])
	}
}

func (c *checker) asKid(i int) finding { return row(c.kid(i, 0)) }

func (c *checker) tuple(i int) finding {
	t := api.Type{Kind: api.KTuple}
	for _, kid := range c.l[i].Kids {
		t.Kids = append(t.Kids, c.of[kid])
	}
	return t
}

func (c *checker) array(i int) finding {
	first := c.kid(i, 0)
	for _, kid := range c.l[i].Kids {
		if !c.same(first, c.of[kid]) {
			return wrong(api.ErrCheckType)
		}
	}
	return api.Type{Kind: api.KArray, Kids: []int{first}}
}

func (c *checker) fill(i int) finding {
	if !c.is(c.kid(i, 0), api.KInt) {
		return wrong(api.ErrCheckType)
	}
	return api.Type{Kind: api.KArray, Kids: []int{c.kid(i, 1)}}
}

func (c *checker) length(i int) finding {
	if !c.is(c.kid(i, 0), api.KArray) {
		return wrong(api.ErrCheckKind)
	}
	return row(c.intRow)
}

// prog: its row stands there already.
func (c *checker) prog(i int) finding {
	n := c.l[i]
	if n.Num == 1 && !ends(c.l, n.Kids[len(n.Kids)-1]) {
		return wrong(api.ErrCheckMiss)
	}
	return nil
}

func (c *checker) unary(i int) finding {
	of := c.kidType(i, 0)
	switch c.l[i].Num {
	case api.OpNeg:
		return when(of.Kind == api.KInt, c.intRow, api.ErrCheckType)
	case api.OpNot:
		return when(of.Kind == api.KBool, c.boolRow, api.ErrCheckType)
	}
	if of.Kind != api.KChan {
		return wrong(api.ErrCheckKind)
	}
	return row(of.Kids[0])
}

// when is a row, if something holds, else an error.
func when(holds bool, r int, code api.Errno) finding {
	if !holds {
		return wrong(code)
	}
	return row(r)
}

func (c *checker) binary(i int) finding {
	switch c.l[i].Num {
	case api.OpOr, api.OpAnd:
		return when(c.both(i, api.KBool), c.boolRow, api.ErrCheckType)
	case api.OpEq, api.OpNe:
		return c.equal(i)
	case api.OpLt, api.OpLe, api.OpGt, api.OpGe:
		return when(c.both(i, api.KInt), c.boolRow, api.ErrCheckType)
	}
	return when(c.both(i, api.KInt), c.intRow, api.ErrCheckType)
}

func (c *checker) both(i, kind int) bool {
	return c.is(c.kid(i, 0), kind) && c.is(c.kid(i, 1), kind)
}

func (c *checker) equal(i int) finding {
	if !c.same(c.kid(i, 0), c.kid(i, 1)) {
		return wrong(api.ErrCheckType)
	}
	switch c.kidType(i, 0).Kind {
	case api.KInt, api.KBool, api.KChan:
		return row(c.boolRow)
	}
	return wrong(api.ErrCheckKind)
}

func (c *checker) call(i int) finding {
	called := c.kidType(i, 0)
	if called.Kind != api.KProg {
		return wrong(api.ErrCheckKind)
	}
	params := called.Kids
	if called.Res {
		params = params[:len(params)-1]
	}
	args := c.l[i].Kids[1:]
	if len(args) != len(params) {
		return wrong(api.ErrCheckMany)
	}
	for k, arg := range args {
		if !c.same(c.of[arg], params[k]) {
			return wrong(api.ErrCheckType)
		}
	}
	if !called.Res {
		return nil
	}
	return row(called.Kids[len(params)])
}

func (c *checker) index(i int) finding {
	of := c.kidType(i, 0)
	if of.Kind != api.KArray {
		return wrong(api.ErrCheckKind)
	}
	return when(c.is(c.kid(i, 1), api.KInt), of.Kids[0], api.ErrCheckType)
}

func (c *checker) field(i int) finding {
	of, part := c.kidType(i, 0), c.l[i].Num
	if of.Kind != api.KTuple {
		return wrong(api.ErrCheckKind)
	}
	if part >= len(of.Kids) {
		return wrong(api.ErrCheckMany)
	}
	return row(of.Kids[part])
}
