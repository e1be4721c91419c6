package parse

import "squint/api"

func (r *reader) typ() int {
	n := api.Node{At: r.next().At}
	switch r.text() {
	case "int":
		n.Kind = api.TInt
	case "bool":
		n.Kind = api.TBool
	case "array":
		return r.typeOf(api.TArray, "array")
	case "chan":
		return r.chanType()
	case "(":
		return r.tupleType()
	case "prog":
		return r.progType()
	default:
		n.Kind, n.Name = api.TName, r.name()
		return r.add(n)
	}
	r.at++
	return r.add(n)
}

// typeOf reads a type that is of another one, by its keyword.
func (r *reader) typeOf(kind int, word string) int {
	at := r.want(word)
	r.want("of")
	return r.add(api.Node{Kind: kind, At: at}, r.typ())
}

func (r *reader) chanType() int { return r.typeOf(api.TChan, "chan") }

func (r *reader) tupleType() int {
	at := r.want("(")
	kids := []int{r.typ()}
	r.want(",")
	kids = append(kids, r.parted(r.typ)...)
	r.want(")")
	return r.add(api.Node{Kind: api.TTuple, At: at}, kids...)
}

func (r *reader) progType() int {
	n := api.Node{Kind: api.TProg, At: r.want("prog")}
	kids := r.listed(r.typ)
	kids, n.Num = r.result(kids)
	return r.add(n, kids...)
}

// result puts the type of a prog's result, if there is one, behind the parameters; and tells how many there are.
func (r *reader) result(kids []int) ([]int, int) {
	if !r.skip(":") {
		return kids, 0
	}
	return append(kids, r.typ()), 1
}
