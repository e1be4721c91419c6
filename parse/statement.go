package parse

import (
	"squint/api"
	"squint/scan"
)

func (r *reader) program() int {
	var kids []int
	for r.text() == "type" {
		kids = append(kids, r.typeNamed())
	}
	types := len(kids)
	for !r.ended() {
		kids = append(kids, r.statement())
	}
	return r.add(api.Node{Kind: api.NProgram, Num: types}, kids...)
}

func (r *reader) typeNamed() int {
	n := api.Node{Kind: api.NType, At: r.want("type"), Name: r.name()}
	r.want("=")
	kid := r.typ()
	r.want(";")
	return r.add(n, kid)
}

func (r *reader) statement() int {
	switch r.text() {
	case "val":
		return r.valNamed()
	case "var":
		return r.varNamed()
	case "if":
		return r.branch()
	case "while":
		return r.loop()
	case "return":
		return r.returned()
	case "begin":
		return r.begun()
	case "select":
		return r.choice()
	case "{":
		return r.block()
	}
	return r.action()
}

func (r *reader) valNamed() int {
	n := api.Node{Kind: api.SVal, At: r.want("val"), Name: r.name()}
	r.want("=")
	kid := r.expr()
	r.want(";")
	return r.add(n, kid)
}

func (r *reader) varNamed() int {
	n := api.Node{Kind: api.SVar, At: r.want("var"), Name: r.name()}
	r.want(":")
	kids := []int{r.typ()}
	if r.skip("=") {
		kids = append(kids, r.expr())
	}
	r.want(";")
	return r.add(n, kids...)
}

func (r *reader) branch() int {
	at := r.want("if")
	kids := []int{r.expr(), r.block()}
	if r.skip("else") {
		kids = append(kids, r.otherwise())
	}
	return r.add(api.Node{Kind: api.SIf, At: at}, kids...)
}

func (r *reader) otherwise() int {
	if r.text() == "if" {
		return r.branch()
	}
	return r.block()
}

func (r *reader) loop() int {
	at := r.want("while")
	return r.add(api.Node{Kind: api.SWhile, At: at}, r.expr(), r.block())
}

func (r *reader) returned() int {
	at := r.want("return")
	var kids []int
	if r.text() != ";" {
		kids = append(kids, r.expr())
	}
	r.want(";")
	return r.add(api.Node{Kind: api.SReturn, At: at}, kids...)
}

func (r *reader) begun() int {
	at := r.want("begin")
	kid := r.expr()
	r.want(";")
	return r.add(api.Node{Kind: api.SBegin, At: at}, kid)
}

func (r *reader) choice() int {
	at := r.want("select")
	r.want("{")
	var kids []int
	for !r.skip("}") {
		kids = append(kids, r.arm())
	}
	return r.add(api.Node{Kind: api.SSelect, At: at}, kids...)
}

func (r *reader) arm() int {
	n := api.Node{Kind: api.NRecv, At: r.want("case")}
	switch {
	case r.skip("<-"):
		return r.add(n, r.unary(), r.block())
	case r.namesNext():
		n.Name = r.name()
		r.want("=")
		r.want("<-")
		return r.add(n, r.unary(), r.block())
	}
	n.Kind = api.NSend
	channel := r.expr()
	r.want("<-=")
	return r.add(n, channel, r.expr(), r.block())
}

// namesNext tells whether a name and a `=` behind it are next. (Behind a name there is a token always: the end's, if no other.)
func (r *reader) namesNext() bool {
	return r.next().Kind == api.TokName && scan.Text(r.tokens[r.at+1].Kind) == "="
}

func (r *reader) block() int {
	at := r.want("{")
	var kids []int
	for !r.skip("}") {
		kids = append(kids, r.statement())
	}
	return r.add(api.Node{Kind: api.SBlock, At: at}, kids...)
}

// action reads a statement that begins with an expression: what stands behind that tells which one it is.
func (r *reader) action() int {
	n := api.Node{Kind: api.SDo, At: r.next().At}
	kids := []int{r.expr()}
	sign := r.next()
	switch {
	case r.skip("="):
		n.Kind, n.At = api.SSet, sign.At
		kids = append(kids, r.expr())
	case r.skip("<-="):
		n.Kind, n.At = api.SSend, sign.At
		kids = append(kids, r.expr())
	}
	r.want(";")
	return r.add(n, kids...)
}
