package check_test

import (
	"reflect"
	"slices"
	"testing"

	"squint/api"
	"squint/check"
	"squint/kinds"
	"squint/scope"
	"squint/tree"
)

// reading reads chapter 6 a second time: what a row is, it finds out each time anew; what is wrong, it asks error by error.
type reading struct {
	l    []api.Node
	rows []api.Type // what kinds.Table tells
	of   []int
	ref  []int
	up   []int // of each node the one whose kid it is; -1 of the program
	owns []int // the nodes that have rows of their own, in the order of these
}

func (r *reading) intRow() int  { return len(r.rows) }
func (r *reading) boolRow() int { return len(r.rows) + 1 }

// row is P6.3, of a node below and ahead of which nothing is wrong.
func (r *reading) row(i int) int {
	n := r.l[i]
	kid := func(k int) int { return r.row(n.Kids[k]) }
	part := func(row, k int) int { return r.typ(row).Kids[k] }
	switch n.Kind {
	case api.TInt, api.TBool, api.TName, api.TArray, api.TTuple, api.TChan, api.TProg:
		return r.of[i]
	case api.NParam, api.EParen, api.EMake, api.SVal, api.SVar:
		return kid(0)
	case api.EInt, api.ELen:
		return r.intRow()
	case api.EBool:
		return r.boolRow()
	case api.EName:
		if r.ref[i] < 0 {
			return len(r.rows) + 2
		}
		return r.row(r.ref[i])
	case api.EProg, api.ETuple, api.EArray, api.EFill:
		return len(r.rows) + 3 + slices.Index(r.owns, i)
	case api.EUnary:
		return []int{0, r.intRow(), r.boolRow(), -1}[n.Num] + r.receives(i)
	case api.EBin:
		if n.Num >= api.OpAdd {
			return r.intRow()
		}
		return r.boolRow()
	case api.ECall:
		if called := r.typ(kid(0)); called.Res {
			return called.Kids[len(called.Kids)-1]
		}
	case api.EIndex:
		return part(kid(0), 0)
	case api.EField:
		return part(kid(0), n.Num)
	case api.NRecv:
		if n.Name != "" {
			return part(kid(0), 0)
		}
	}
	return -1
}

// receives is, of a receive, one more than its row; 0 of all else.
func (r *reading) receives(i int) int {
	if r.l[i].Num != api.OpRecv {
		return 0
	}
	return r.typ(r.row(r.l[i].Kids[0])).Kids[0] + 1
}

// typ is P6.2: what a row is.
func (r *reading) typ(row int) api.Type {
	if row < len(r.rows) {
		return r.rows[row]
	}
	row -= len(r.rows)
	if row < 3 {
		return []api.Type{{Kind: api.KInt}, {Kind: api.KBool}, {Kind: api.KChan, Kids: []int{r.intRow()}}}[row]
	}
	return r.own(r.owns[row-3])
}

// own is the type of a node that has a row of its own.
func (r *reading) own(i int) api.Type {
	n := r.l[i]
	var kids []int
	for _, k := range n.Kids {
		if r.l[k].Kind != api.SBlock {
			kids = append(kids, r.row(k))
		}
	}
	switch n.Kind {
	case api.EProg:
		return api.Type{Kind: api.KProg, Kids: kids, Res: n.Num == 1}
	case api.ETuple:
		return api.Type{Kind: api.KTuple, Kids: kids}
	case api.EArray:
		return api.Type{Kind: api.KArray, Kids: kids[:1]}
	}
	return api.Type{Kind: api.KArray, Kids: kids[1:]}
}

// same holds two unfoldings against each other, as far as it has not done so already.
func (r *reading) same(a, b int, been map[[2]int]bool) bool {
	if been[[2]int{a, b}] {
		return true
	}
	been[[2]int{a, b}] = true
	x, y := r.typ(a), r.typ(b)
	if x.Kind != y.Kind || x.Res != y.Res || len(x.Kids) != len(y.Kids) {
		return false
	}
	for k := range x.Kids {
		if !r.same(x.Kids[k], y.Kids[k], been) {
			return false
		}
	}
	return true
}

func (r *reading) kid(i, k int) int { return r.row(r.l[i].Kids[k]) }

func (r *reading) kind(i, k int) int { return r.typ(r.kid(i, k)).Kind }

// untyped: ErrCheckNone.
func (r *reading) untyped(i int) bool {
	for _, k := range r.l[i].Kids {
		if kind := r.l[k].Kind; kind > api.TProg && kind < api.SVal && r.row(k) == -1 {
			return true
		}
	}
	return false
}

// unlike: ErrCheckType.
func (r *reading) unlike(i int) bool {
	n := r.l[i]
	not := func(k, row int) bool { return !r.same(r.kid(i, k), row, map[[2]int]bool{}) }
	switch n.Kind {
	case api.EArray:
		for k := range n.Kids {
			if not(k, r.kid(i, 0)) {
				return true
			}
		}
		return false
	case api.EFill:
		return not(0, r.intRow())
	case api.EUnary:
		return n.Num == api.OpNeg && not(0, r.intRow()) || n.Num == api.OpNot && not(0, r.boolRow())
	case api.EBin:
		want := r.intRow()
		if n.Num <= api.OpAnd {
			want = r.boolRow()
		} else if n.Num <= api.OpNe {
			want = r.kid(i, 0)
		}
		return not(0, want) || not(1, want)
	case api.ECall:
		for k := range n.Kids[1:] {
			if not(k+1, r.typ(r.kid(i, 0)).Kids[k]) {
				return true
			}
		}
		return false
	case api.EIndex:
		return not(1, r.intRow())
	case api.SVar:
		return len(n.Kids) == 2 && not(1, r.kid(i, 0))
	case api.SSet:
		return not(1, r.kid(i, 0))
	case api.SSend, api.NSend:
		return not(1, r.typ(r.kid(i, 0)).Kids[0])
	case api.SReturn:
		return len(n.Kids) == 1 && not(0, r.wanted(i))
	}
	return not(0, r.boolRow())
}

// wanted is the row of what a return must give; -1: it must give nothing.
func (r *reading) wanted(i int) int {
	for i = r.up[i]; i >= 0; i = r.up[i] {
		if n := r.l[i]; n.Kind == api.EProg {
			if n.Num == 0 {
				return -1
			}
			return r.row(n.Kids[len(n.Kids)-2])
		}
	}
	return -1
}

// wantedKind is what the first kid must be of.
var wantedKind = map[int]int{api.ELen: api.KArray, api.EUnary: api.KChan, api.ECall: api.KProg, api.EIndex: api.KArray, api.EField: api.KTuple, api.SSend: api.KChan, api.NSend: api.KChan, api.NRecv: api.KChan}

// amiss: ErrCheckKind.
func (r *reading) amiss(i int) bool {
	n := r.l[i]
	switch {
	case n.Kind == api.EUnary && n.Num != api.OpRecv, n.Kind == api.EBin && n.Num != api.OpEq && n.Num != api.OpNe:
		return false
	case n.Kind == api.EBin:
		kind := r.kind(i, 0)
		return kind == api.KArray || kind == api.KTuple || kind == api.KProg
	}
	return r.kind(i, 0) != wantedKind[n.Kind]
}

// many: ErrCheckMany.
func (r *reading) many(i int) bool {
	n, of := r.l[i], r.typ(r.kid(i, 0))
	if n.Kind == api.EField {
		return n.Num >= len(of.Kids)
	}
	want := len(of.Kids) + 1
	if of.Res {
		want--
	}
	return len(n.Kids) != want
}

func (r *reading) bare(i int) api.Node {
	if r.l[i].Kind == api.EParen {
		return r.bare(r.l[i].Kids[0])
	}
	return r.l[i]
}

func (r *reading) place(i int) bool {
	n := r.l[i]
	return n.Kind == api.EName || (n.Kind == api.EIndex || n.Kind == api.EField) && r.place(n.Kids[0])
}

// passes tells whether one may come to the end of a statement: P6.5, the other way round.
func (r *reading) passes(i int) bool {
	n := r.l[i]
	switch n.Kind {
	case api.SReturn:
		return false
	case api.SBlock:
		return len(n.Kids) == 0 || r.passes(n.Kids[len(n.Kids)-1])
	case api.SIf:
		return len(n.Kids) == 2 || r.passes(n.Kids[1]) || r.passes(n.Kids[2])
	case api.SSelect:
		for _, arm := range n.Kids {
			if r.passes(r.l[arm].Kids[len(r.l[arm].Kids)-1]) {
				return true
			}
		}
		return false
	}
	return true
}

// asked are the errors of which a node is asked, in the chapter's order.
var asked = map[int][]api.Errno{
	api.ETuple:  {api.ErrCheckNone},
	api.EArray:  {api.ErrCheckNone, api.ErrCheckType},
	api.EFill:   {api.ErrCheckNone, api.ErrCheckType},
	api.ELen:    {api.ErrCheckNone, api.ErrCheckKind},
	api.EProg:   {api.ErrCheckMiss},
	api.EUnary:  {api.ErrCheckNone, api.ErrCheckType, api.ErrCheckKind},
	api.EBin:    {api.ErrCheckNone, api.ErrCheckType, api.ErrCheckKind},
	api.ECall:   {api.ErrCheckNone, api.ErrCheckKind, api.ErrCheckMany, api.ErrCheckType},
	api.EIndex:  {api.ErrCheckNone, api.ErrCheckKind, api.ErrCheckType},
	api.EField:  {api.ErrCheckNone, api.ErrCheckKind, api.ErrCheckMany},
	api.SVal:    {api.ErrCheckNone},
	api.SVar:    {api.ErrCheckNone, api.ErrCheckType},
	api.SSet:    {api.ErrCheckPlace, api.ErrCheckNone, api.ErrCheckType},
	api.SSend:   {api.ErrCheckNone, api.ErrCheckKind, api.ErrCheckType},
	api.SDo:     {api.ErrCheckIdle},
	api.SIf:     {api.ErrCheckNone, api.ErrCheckType},
	api.SWhile:  {api.ErrCheckNone, api.ErrCheckType},
	api.SReturn: {api.ErrCheckReturn, api.ErrCheckNone, api.ErrCheckType},
	api.SBegin:  {api.ErrCheckBegin},
	api.NRecv:   {api.ErrCheckNone, api.ErrCheckKind},
	api.NSend:   {api.ErrCheckNone, api.ErrCheckKind, api.ErrCheckType},
}

func (r *reading) broken(i int, code api.Errno) bool {
	n := r.l[i]
	switch code {
	case api.ErrCheckNone:
		return r.untyped(i)
	case api.ErrCheckType:
		return r.unlike(i)
	case api.ErrCheckKind:
		return r.amiss(i)
	case api.ErrCheckMany:
		return r.many(i)
	case api.ErrCheckMiss:
		return n.Num == 1 && r.passes(n.Kids[len(n.Kids)-1])
	case api.ErrCheckPlace:
		return !r.place(n.Kids[0])
	case api.ErrCheckReturn:
		return (len(n.Kids) == 1) != (r.wanted(i) >= 0)
	case api.ErrCheckIdle:
		e := r.bare(n.Kids[0])
		return e.Kind != api.ECall && !(e.Kind == api.EUnary && e.Num == api.OpRecv)
	}
	return r.bare(n.Kids[0]).Kind != api.ECall
}

// first goes through the tree, and tells the first node that is wrong; -1, if none is.
func (r *reading) first(i int) (int, api.Errno) {
	n := r.l[i]
	for k, kid := range n.Kids {
		if at, code := r.first(kid); at >= 0 {
			return at, code
		}
		if n.Kind == api.NRecv && k == 0 {
			if code := r.code(i); code != api.OK {
				return i, code
			}
		}
	}
	if code := r.code(i); n.Kind != api.NRecv && code != api.OK {
		return i, code
	}
	return -1, api.OK
}

func (r *reading) code(i int) api.Errno {
	for _, code := range asked[r.l[i].Kind] {
		if r.broken(i, code) {
			return code
		}
	}
	return api.OK
}

func read(l []api.Node, names api.Names) *reading {
	r := &reading{l: l, ref: names.Ref, up: make([]int, len(l))}
	r.rows, r.of, _ = kinds.Table(l)
	r.up[len(l)-1] = -1
	var made []int
	for i, n := range l {
		for _, k := range n.Kids {
			r.up[k] = i
		}
		switch n.Kind {
		case api.EProg:
			r.owns = append(r.owns, i)
		case api.ETuple, api.EArray, api.EFill:
			made = append(made, i)
		}
	}
	r.owns = append(r.owns, made...)
	return r
}

// checked is what Check must answer; also the kind of the node that is wrong.
func checked(l []api.Node) (api.Typed, api.Names, api.Fault, int) {
	_, _, f := kinds.Table(l)
	if f.Code != api.OK {
		return api.Typed{}, api.Names{}, f, 0
	}
	names, f := scope.Names(l)
	if f.Code != api.OK {
		return api.Typed{}, api.Names{}, f, 0
	}
	r := read(l, names)
	if at, code := r.first(len(l) - 1); at >= 0 {
		return api.Typed{}, api.Names{}, api.Fault{At: l[at].At, Code: code}, l[at].Kind
	}
	var typed api.Typed
	for i := range l {
		typed.Of = append(typed.Of, r.row(i))
	}
	for k := range len(r.rows) + 3 + len(r.owns) {
		typed.Types = append(typed.Types, r.typ(k))
	}
	return typed, names, api.Fault{}, 0
}

// filled has lists in the place of nil ones.
func filled(typed api.Typed) api.Typed {
	out := api.Typed{Types: []api.Type{}, Of: append([]int{}, typed.Of...)}
	for _, row := range typed.Types {
		row.Kids = append([]int{}, row.Kids...)
		out.Types = append(out.Types, row)
	}
	return out
}

// wantRead holds Check against the second reading; what that says.
func wantRead(t *testing.T, l []api.Node) (api.Typed, api.Names, api.Fault, int) {
	t.Helper()
	want, wantNames, wantF, kind := checked(l)
	typed, names, f := check.Check(l)
	if f != wantF || !reflect.DeepEqual(filled(typed), filled(want)) || !reflect.DeepEqual(names, wantNames) {
		text, _ := tree.Print(l)
		t.Fatalf("%q: %v, %v, %v, not %v, %v, %v", text, typed, names, f, want, wantNames, wantF)
	}
	return typed, names, f, kind
}
