package kinds_test

import (
	"math"
	"math/rand/v2"
	"testing"

	"squint/api"
	"squint/kinds"
)

func row(kind int, kids ...int) api.Type { return api.Type{Kind: kind, Kids: kids} }

func withRes(kind int, kids ...int) api.Type { return api.Type{Kind: kind, Kids: kids, Res: true} }

func wantValid(t *testing.T, want bool, rows ...api.Type) {
	t.Helper()
	if kinds.Valid(rows) != want {
		t.Errorf("Valid(%v) is not %v", rows, want)
	}
}

// wantSame asks both ways round.
func wantSame(t *testing.T, want bool, rows []api.Type, a, b int) {
	t.Helper()
	if kinds.Same(rows, a, b) != want || kinds.Same(rows, b, a) != want {
		t.Errorf("Same(%v, %d, %d) is not %v", rows, a, b, want)
	}
}

// P4.2
func TestValid(t *testing.T) {
	wantValid(t, true)
	for _, k := range []int{api.KInt, api.KBool} {
		wantValid(t, true, row(k))
		wantValid(t, false, row(k, 0))
		wantValid(t, false, withRes(k))
		wantValid(t, false, withRes(k, 0))
	}
	for _, k := range []int{api.KArray, api.KChan} {
		wantValid(t, true, row(k, 0))
		wantValid(t, false, row(k))
		wantValid(t, false, row(k, 0, 0))
		wantValid(t, false, withRes(k, 0))
	}
	wantValid(t, false, row(api.KTuple))
	wantValid(t, false, row(api.KTuple, 0))
	wantValid(t, true, row(api.KTuple, 0, 0))
	wantValid(t, true, row(api.KTuple, 0, 0, 0))
	wantValid(t, false, withRes(api.KTuple, 0, 0))
	wantValid(t, true, row(api.KProg))
	wantValid(t, true, row(api.KProg, 0))
	wantValid(t, true, row(api.KProg, 0, 0, 0))
	wantValid(t, false, withRes(api.KProg))
	wantValid(t, true, withRes(api.KProg, 0))
	wantValid(t, true, withRes(api.KProg, 0, 0, 0))
	for _, k := range []int{math.MinInt, -1, 0, 7, math.MaxInt} {
		for kids := range 3 {
			wantValid(t, false, row(k, make([]int, kids)...))
			wantValid(t, false, withRes(k, make([]int, kids)...))
		}
	}
}

// P4.2: Kids are rows of the table, in any row and at any place of it; an empty list is as good as none.
func TestValidKids(t *testing.T) {
	number := row(api.KInt)
	for _, kid := range []int{0, 1, 2} {
		wantValid(t, true, number, row(api.KTuple, kid, 0), number)
		wantValid(t, true, number, number, withRes(api.KProg, 0, 1, kid))
	}
	for _, kid := range []int{-1, 3, 4, math.MinInt, math.MaxInt} {
		wantValid(t, false, row(api.KChan, kid), number, number)
		wantValid(t, false, number, row(api.KTuple, kid, 0), number)
		wantValid(t, false, number, number, withRes(api.KProg, 0, 1, kid))
	}
	wantValid(t, true, api.Type{Kind: api.KInt, Kids: []int{}}, api.Type{Kind: api.KProg, Kids: []int{}})
	wantValid(t, false, number, number, number, row(api.KTuple, 0))
	wantValid(t, false, row(9), number)
	// Rows may go round in any way, by tuples alone too.
	wantValid(t, true, row(api.KTuple, 1, 0), row(api.KTuple, 2, 2), row(api.KTuple, 0, 1))
}

// The chapter's examples of Same, and what is no row.
func TestSameExamples(t *testing.T) {
	rows := []api.Type{row(api.KInt), row(api.KProg), withRes(api.KProg, 0)}
	wantSame(t, false, rows, 1, 2)
	for i := range rows {
		wantSame(t, true, rows, i, i)
		for _, no := range []int{-1, 3, math.MinInt, math.MaxInt} {
			wantSame(t, false, rows, i, no)
			wantSame(t, false, rows, no, no)
		}
	}
	wantSame(t, false, []api.Type{row(api.KArray, 9)}, 0, 0)
	wantSame(t, false, nil, 0, 0)
	wantSame(t, false, []api.Type{row(api.KInt), row(api.KInt), row(0)}, 0, 1)
}

// P4.3: what a root shows: the Kind, Res, the number of Kids.
func TestSameHeads(t *testing.T) {
	rows := []api.Type{
		row(api.KInt), row(api.KBool), row(api.KArray, 0), row(api.KChan, 0), row(api.KTuple, 0, 0), row(api.KTuple, 0, 0, 0),
		row(api.KProg), row(api.KProg, 0), row(api.KProg, 0, 0), row(api.KProg, 0, 0, 0), withRes(api.KProg, 0), withRes(api.KProg, 0, 0), withRes(api.KProg, 0, 0, 0),
	}
	n := len(rows)
	rows = append(rows, rows...)
	for a := range rows {
		for b := range rows {
			wantSame(t, a%n == b%n, rows, a, b)
		}
	}
	// An empty list of Kids, and none.
	wantSame(t, true, []api.Type{{Kind: api.KProg, Kids: []int{}}, {Kind: api.KProg}}, 0, 1)
}

// P4.3: the Kids count in their order, each of them, at any depth.
func TestSameKids(t *testing.T) {
	rows := []api.Type{
		row(api.KInt), row(api.KBool),
		row(api.KTuple, 0, 1), row(api.KTuple, 1, 0), row(api.KTuple, 0, 1), row(api.KTuple, 0, 0),
		row(api.KArray, 2), row(api.KArray, 3), row(api.KArray, 4),
		row(api.KProg, 0, 6, 1), row(api.KProg, 0, 7, 1), row(api.KProg, 0, 8, 1), row(api.KProg, 0, 8, 0), row(api.KProg, 1, 8, 1),
		withRes(api.KProg, 0, 8, 1), withRes(api.KProg, 0, 6, 1), withRes(api.KProg, 0, 6, 0),
	}
	same := map[[2]int]bool{{2, 4}: true, {6, 8}: true, {9, 11}: true, {14, 15}: true}
	for a := range rows {
		for b := a; b < len(rows); b++ {
			wantSame(t, a == b || same[[2]int{a, b}], rows, a, b)
		}
	}
}

// ring is n rows of one kind that go round, from a first one on.
func ring(rows []api.Type, kind, n int) []api.Type {
	first := len(rows)
	for k := range n {
		rows = append(rows, row(kind, first+(k+1)%n))
	}
	return rows
}

// P4.3: rows that go round are the same, if no way tells them apart, however long the rounds are.
func TestSameRounds(t *testing.T) {
	rows := ring(ring(ring(nil, api.KChan, 1), api.KChan, 2), api.KChan, 3)
	for a := range rows {
		for b := range rows {
			wantSame(t, true, rows, a, b)
		}
	}
	rows = append(ring(rows, api.KArray, 2), row(api.KChan, 6), row(api.KChan, 0))
	wantSame(t, true, rows, 6, 7)
	wantSame(t, false, rows, 0, 6)
	wantSame(t, false, rows, 0, 8)
	wantSame(t, true, rows, 1, 9)

	// Two rounds of 6 and 4 that differ at one place in each turn: only a way through both, several times, tells them apart.
	rows = ring(ring(nil, api.KChan, 6), api.KChan, 4)
	rows[5].Kind, rows[9].Kind = api.KArray, api.KArray
	wantSame(t, false, rows, 0, 6)
	rows = ring(ring(nil, api.KChan, 6), api.KChan, 3)
	rows[2].Kind, rows[5].Kind, rows[8].Kind = api.KArray, api.KArray, api.KArray
	for a := range rows {
		for b := range rows {
			wantSame(t, a%3 == b%3, rows, a, b)
		}
	}
	// Tuples that go round by themselves alone.
	rows = []api.Type{row(api.KTuple, 0, 0), row(api.KTuple, 2, 1), row(api.KTuple, 0, 1), row(api.KTuple, 3, 4), row(api.KInt)}
	wantSame(t, true, rows, 0, 1)
	wantSame(t, true, rows, 1, 2)
	wantSame(t, false, rows, 0, 3)
}

// A thing that Same took for the same on its way must not hide a later difference, wherever among the Kids that stands.
func TestSameLateDifference(t *testing.T) {
	for k := range 4 {
		rows := []api.Type{
			row(api.KTuple, 0, 0, 0, 0), row(api.KTuple, 1, 0, 1, 0), row(api.KInt),
		}
		wantSame(t, true, rows, 0, 1)
		rows[1].Kids[k] = 2
		wantSame(t, false, rows, 0, 1)
		rows = append(rows, row(api.KTuple, 0, 0, 0, 0), row(api.KTuple, 3, 0, 3, 0))
		rows[3].Kids[k] = 1
		wantSame(t, true, rows, 0, 0)
		wantSame(t, false, rows, 0, 3)
		wantSame(t, false, rows, 0, 4)
	}
}

// plainValid reads 'Rows' and P4.2 a second time.
func plainValid(t []api.Type) bool {
	least := map[int]int{api.KInt: 0, api.KBool: 0, api.KArray: 1, api.KChan: 1, api.KTuple: 2, api.KProg: 0}
	most := map[int]int{api.KInt: 0, api.KBool: 0, api.KArray: 1, api.KChan: 1, api.KTuple: math.MaxInt, api.KProg: math.MaxInt}
	for _, r := range t {
		low, known := least[r.Kind]
		if !known || r.Res && r.Kind != api.KProg {
			return false
		}
		if r.Res {
			low = 1
		}
		if len(r.Kids) < low || len(r.Kids) > most[r.Kind] {
			return false
		}
		for _, kid := range r.Kids {
			if kid < 0 || kid >= len(t) {
				return false
			}
		}
	}
	return true
}

// apart reads P4.3 and P4.5 a second time: which rows are told apart by ways of at most n * n steps, one step more each round.
func apart(t []api.Type) [][]bool {
	n := len(t)
	known := make([][]bool, n)
	for a := range known {
		known[a] = make([]bool, n)
	}
	for range n*n + 1 {
		next := make([][]bool, n)
		for a := range next {
			next[a] = make([]bool, n)
			for b := range next[a] {
				x, y := t[a], t[b]
				next[a][b] = x.Kind != y.Kind || x.Res != y.Res || len(x.Kids) != len(y.Kids)
				for k := 0; !next[a][b] && k < len(x.Kids); k++ {
					next[a][b] = known[x.Kids[k]][y.Kids[k]]
				}
			}
		}
		known = next
	}
	return known
}

// holdSame holds Same against the second reading, of all pairs of numbers in and around a table.
func holdSame(t *testing.T, rows []api.Type) {
	t.Helper()
	valid := plainValid(rows)
	if kinds.Valid(rows) != valid {
		t.Fatalf("Valid(%v) is not %v", rows, valid)
	}
	var told [][]bool
	if valid {
		told = apart(rows)
	}
	for a := -1; a <= len(rows); a++ {
		for b := -1; b <= len(rows); b++ {
			in := min(a, b) >= 0 && max(a, b) < len(rows)
			if want := valid && in && !told[a][b]; kinds.Same(rows, a, b) != want {
				t.Fatalf("Same(%v, %d, %d) is not %v", rows, a, b, want)
			}
		}
	}
}

// shapes are all rows with at most so many Kids from a lowest one up to a highest one, of some kinds.
func shapes(lowKind, highKind, most, low, high int) []api.Type {
	lists := [][]int{nil}
	var out []api.Type
	for range most + 1 {
		var longer [][]int
		for _, kids := range lists {
			for kind := lowKind; kind <= highKind; kind++ {
				out = append(out, row(kind, kids...), withRes(kind, kids...))
			}
			for kid := low; kid <= high; kid++ {
				longer = append(longer, append(append([]int(nil), kids...), kid))
			}
		}
		lists = longer
	}
	return out
}

func right(all []api.Type) []api.Type {
	var out []api.Type
	for _, r := range all {
		if len(r.Kids) < 3 && plainValid([]api.Type{r, r, r}) {
			out = append(out, r)
		}
	}
	return out
}

// Every table of at most two rows with at most two Kids, right or wrong; every right one of three.
func TestSmallTables(t *testing.T) {
	holdSame(t, nil)
	for _, a := range shapes(0, 7, 3, -1, 1) {
		holdSame(t, []api.Type{a})
	}
	two := shapes(0, 7, 2, -1, 2)
	for _, a := range two {
		for _, b := range two {
			rows := []api.Type{a, b}
			if kinds.Valid(rows) != plainValid(rows) {
				t.Fatalf("Valid(%v) is not %v", rows, plainValid(rows))
			}
			if plainValid(rows) {
				holdSame(t, rows)
			}
		}
	}
	three := right(shapes(api.KInt, api.KProg, 2, 0, 2))
	for _, a := range three {
		for _, b := range three {
			for _, c := range three {
				rows := []api.Type{a, b, c}
				told := apart(rows)
				if kinds.Same(rows, 0, 1) == told[0][1] || kinds.Same(rows, 2, 1) == told[2][1] || kinds.Same(rows, 0, 2) == told[0][2] {
					t.Fatalf("Same of %v, apart: %v", rows, told)
				}
			}
		}
	}
}

// madeRows makes a right table in which many rows are the same: it is a small one, each of whose rows stands in it several times.
func madeRows(r *rand.Rand) []api.Type {
	core, n := 1+r.IntN(4), 1+r.IntN(12)
	small := make([]api.Type, core)
	for i := range small {
		kind := []int{api.KInt, api.KBool, api.KArray, api.KChan, api.KChan, api.KTuple, api.KTuple, api.KProg}[r.IntN(8)]
		small[i].Kind = kind
		kids := map[int]int{api.KArray: 1, api.KChan: 1, api.KTuple: 2 + r.IntN(2), api.KProg: r.IntN(3)}[kind]
		for range kids {
			small[i].Kids = append(small[i].Kids, r.IntN(core))
		}
		small[i].Res = kind == api.KProg && kids > 0 && r.IntN(2) == 0
	}
	rows := make([]api.Type, max(n, core))
	for i := range rows {
		from := small[i%core]
		rows[i].Kind, rows[i].Res = from.Kind, from.Res
		for _, kid := range from.Kids {
			times := (len(rows) - kid + core - 1) / core
			rows[i].Kids = append(rows[i].Kids, kid+core*r.IntN(times))
		}
	}
	return rows
}

func copyOfRows(rows []api.Type) []api.Type {
	out := append([]api.Type(nil), rows...)
	for i := range out {
		out[i].Kids = append([]int(nil), out[i].Kids...)
	}
	return out
}

// spoiltRows changes one thing of a table.
func spoiltRows(r *rand.Rand, rows []api.Type) []api.Type {
	out := copyOfRows(rows)
	one := &out[r.IntN(len(out))]
	switch r.IntN(5) {
	case 0:
		one.Kind = r.IntN(9) - 1
	case 1:
		one.Res = !one.Res
	case 2:
		one.Kids = append(one.Kids, r.IntN(len(out)))
	case 3:
		one.Kids = one.Kids[:max(0, len(one.Kids)-1)]
	case 4:
		if len(one.Kids) > 0 {
			one.Kids[r.IntN(len(one.Kids))] = r.IntN(len(out)+2) - 1
		}
	}
	return out
}

func TestMadeTables(t *testing.T) {
	r := rand.New(rand.NewPCG(4, 3))
	for range 3000 {
		rows := madeRows(r)
		holdSame(t, rows)
		holdSame(t, spoiltRows(r, rows))
		holdSame(t, spoiltRows(r, spoiltRows(r, rows)))
	}
}

// sames is what Same tells of all pairs.
func sames(rows []api.Type) [][]bool {
	out := make([][]bool, len(rows))
	for a := range out {
		for b := range rows {
			out[a] = append(out[a], kinds.Same(rows, a, b))
		}
	}
	return out
}

// kidsSame tells whether the Kids of two rows are so many, and the same one by one.
func kidsSame(same [][]bool, x, y api.Type) bool {
	if len(x.Kids) != len(y.Kids) {
		return false
	}
	for k := range x.Kids {
		if !same[x.Kids[k]][y.Kids[k]] {
			return false
		}
	}
	return true
}

// P4.4
func TestEquivalence(t *testing.T) {
	r := rand.New(rand.NewPCG(4, 4))
	for range 2000 {
		rows := madeRows(r)
		if rows2 := spoiltRows(r, rows); r.IntN(2) == 0 && plainValid(rows2) {
			rows = rows2
		}
		same := sames(rows)
		for a := range rows {
			if !same[a][a] {
				t.Fatalf("%v: %d is not the same as itself", rows, a)
			}
			for b := range rows {
				if same[a][b] != same[b][a] {
					t.Fatalf("%v: order matters of %d, %d", rows, a, b)
				}
				heads := rows[a].Kind == rows[b].Kind && rows[a].Res == rows[b].Res
				if same[a][b] != (heads && kidsSame(same, rows[a], rows[b])) {
					t.Fatalf("%v: %d, %d: %v, but their heads and Kids say otherwise", rows, a, b, same[a][b])
				}
				for c := range rows {
					if same[a][b] && same[b][c] && !same[a][c] {
						t.Fatalf("%v: %d, %d, %d", rows, a, b, c)
					}
				}
			}
		}
	}
}

// P4.4: a Kid that is another row, the same, changes nothing.
func TestOtherKid(t *testing.T) {
	r := rand.New(rand.NewPCG(4, 5))
	changed := 0
	for range 2000 {
		rows := madeRows(r)
		same := sames(rows)
		other := copyOfRows(rows)
		for i := range other {
			for k, kid := range other[i].Kids {
				for to := range other {
					if to != kid && same[kid][to] && r.IntN(2) == 0 {
						other[i].Kids[k] = to
						changed++
						break
					}
				}
			}
		}
		for a, line := range sames(other) {
			for b := range line {
				if line[b] != same[a][b] {
					t.Fatalf("%v, and with other Kids %v: Same of %d, %d", rows, other, a, b)
				}
			}
		}
	}
	if changed < 1000 {
		t.Errorf("only %d Kids were changed", changed)
	}
}

// R1: however long rows go round, and however deep they go; no call within a call.
func TestManyRows(t *testing.T) {
	const n = 1 << 18
	rows := ring(ring(nil, api.KChan, n), api.KChan, n-1)
	wantSame(t, true, rows, 0, n)
	rows[n/2].Kind = api.KArray
	wantSame(t, false, rows, 0, n)

	deep := []api.Type{row(api.KInt), row(api.KInt)}
	for k := range 2 * n {
		deep = append(deep, row(api.KTuple, k, k))
	}
	wantSame(t, true, deep, 2*n, 2*n+1)
	wantSame(t, false, deep, 2*n-1, 2*n+1)
	deep[1].Kind = api.KBool
	wantSame(t, false, deep, 2*n, 2*n+1)
}

// R4: what is handed in stays as it is.
func TestSameLeavesRows(t *testing.T) {
	r := rand.New(rand.NewPCG(4, 6))
	for range 300 {
		rows := madeRows(r)
		kept := copyOfRows(rows)
		kinds.Valid(rows)
		sames(rows)
		if told(rows) != told(kept) {
			t.Fatalf("%v became %v", kept, rows)
		}
	}
}
