package value_test

import (
	"math/big"
	"math/rand/v2"
	"testing"

	"squint/api"
	"squint/kinds"
	"squint/value"
)

func row(kind int, kids ...int) api.Type { return api.Type{Kind: kind, Kids: kids} }

// ending is a row with a result.
func ending(kind int, kids ...int) api.Type { return api.Type{Kind: kind, Kids: kids, Res: true} }

// P7.3
func TestZero(t *testing.T) {
	pairs := []api.Type{row(api.KTuple, 1, 1), row(api.KInt)}
	all := []api.Type{
		row(api.KInt), row(api.KBool), row(api.KArray, 0), row(api.KTuple, 0, 1, 2), row(api.KChan, 7), row(api.KProg), ending(api.KProg, 3, 3, 7),
		row(api.KTuple, 3, 6, 3, 5, 4), row(api.KArray, 8), row(api.KTuple, 8, 10), row(api.KChan, 9), row(api.KProg, 11), row(api.KTuple, 11, 11),
	}
	three := tuple(num(0), no(), array())
	for _, x := range []struct {
		t         []api.Type
		row, most int
		want      api.Value // VNone: there is none
	}{
		{pairs, 0, 3, tuple(num(0), num(0))}, {pairs, 0, 2, api.Value{}},
		{[]api.Type{row(api.KTuple, 0, 1), row(api.KInt)}, 0, 99, api.Value{}}, {[]api.Type{row(api.KArray, 0)}, 0, 99, array()},
		{pairs, 0, 4, tuple(num(0), num(0))}, {pairs, 0, greatest, tuple(num(0), num(0))}, {pairs, 0, 1, api.Value{}}, {pairs, 0, 0, api.Value{}}, {pairs, 0, -1, api.Value{}}, {pairs, 0, least, api.Value{}},
		{pairs, 1, 1, num(0)}, {pairs, 1, greatest, num(0)}, {pairs, 1, 0, api.Value{}}, {pairs, 1, -1, api.Value{}}, {pairs, 1, least, api.Value{}},
		{pairs, -1, 9, api.Value{}}, {pairs, 2, 9, api.Value{}}, {pairs, least, 9, api.Value{}}, {pairs, greatest, 9, api.Value{}}, {nil, 0, 9, api.Value{}}, {nil, -1, 9, api.Value{}}, {[]api.Type{}, 0, 9, api.Value{}},
		{all, 0, 1, num(0)}, {all, 1, 1, no()}, {all, 2, 1, array()}, {all, 3, 4, three}, {all, 3, 3, api.Value{}}, {all, 4, 1, channel(0)}, {all, 5, 1, fn(0)}, {all, 6, 1, fn(0)}, {all, 8, 1, array()}, {all, 10, 1, channel(0)}, {all, 11, 1, fn(0)},
		{all, 7, 12, tuple(three, fn(0), three, fn(0), channel(0))}, {all, 7, 11, api.Value{}}, {all, 9, 3, tuple(array(), channel(0))}, {all, 12, 3, tuple(fn(0), fn(0))}, {all, 12, 2, api.Value{}},
		// Rows that come back to themselves, and those that have such a row.
		{[]api.Type{row(api.KTuple, 1, 1), row(api.KTuple, 2, 2), row(api.KTuple, 3, 0), row(api.KInt)}, 0, greatest, api.Value{}},
		{[]api.Type{row(api.KTuple, 1, 1), row(api.KTuple, 2, 2), row(api.KTuple, 3, 0), row(api.KInt)}, 1, greatest, api.Value{}},
		{[]api.Type{row(api.KTuple, 1, 1), row(api.KTuple, 2, 2), row(api.KTuple, 3, 0), row(api.KInt)}, 3, greatest, num(0)},
		{[]api.Type{row(api.KTuple, 0, 0)}, 0, greatest, api.Value{}}, {[]api.Type{row(api.KTuple, 1, 0), row(api.KInt)}, 0, greatest, api.Value{}}, {[]api.Type{row(api.KTuple, 1, 0), row(api.KInt)}, 1, greatest, num(0)},
		{[]api.Type{row(api.KTuple, 2, 1), row(api.KTuple, 2, 1), row(api.KInt)}, 0, greatest, api.Value{}}, {[]api.Type{row(api.KTuple, 1, 2), row(api.KTuple, 1, 2), row(api.KInt)}, 0, 1000, api.Value{}},
		{[]api.Type{row(api.KTuple, 1, 2), row(api.KTuple, 2, 2), row(api.KInt), row(api.KTuple, 3, 3)}, 0, greatest, tuple(tuple(num(0), num(0)), num(0))},
		{[]api.Type{row(api.KTuple, 1, 1), row(api.KArray, 0)}, 0, 3, tuple(array(), array())}, {[]api.Type{row(api.KTuple, 1, 1), row(api.KChan, 0)}, 0, 3, tuple(channel(0), channel(0))}, {[]api.Type{row(api.KTuple, 1, 1), ending(api.KProg, 0)}, 0, 3, tuple(fn(0), fn(0))},
		{[]api.Type{row(api.KArray, 1), row(api.KTuple, 1, 1)}, 0, 1, array()}, {[]api.Type{row(api.KChan, 1), row(api.KTuple, 1, 1)}, 0, 1, channel(0)}, {[]api.Type{row(api.KProg, 1), row(api.KTuple, 1, 1)}, 0, 1, fn(0)},
		// Tables that kinds refuses, also where the row itself is right.
		{[]api.Type{row(api.KInt), row(api.KArray)}, 0, 9, api.Value{}}, {[]api.Type{row(api.KInt), row(api.KArray, 2)}, 0, 9, api.Value{}}, {[]api.Type{row(api.KInt), row(api.KTuple, 0)}, 0, 9, api.Value{}}, {[]api.Type{row(api.KInt), row(api.KTuple, 0, -1)}, 1, 9, api.Value{}},
		{[]api.Type{row(0)}, 0, 9, api.Value{}}, {[]api.Type{row(7)}, 0, 9, api.Value{}}, {[]api.Type{row(-1)}, 0, 9, api.Value{}}, {[]api.Type{row(api.KInt, 0)}, 0, 9, api.Value{}}, {[]api.Type{row(api.KInt), row(9)}, 0, 9, api.Value{}}, {[]api.Type{ending(api.KInt)}, 0, 9, api.Value{}}, {[]api.Type{ending(api.KProg)}, 0, 9, api.Value{}},
	} {
		v, ok := value.Zero(x.t, x.row, x.most)
		if !value.Same(v, x.want) || ok != (x.want.Kind != api.VNone) || !ok && !isNone(v) {
			t.Errorf("Zero(%v, %d, %d): %v, %v, not %v", x.t, x.row, x.most, v, ok, x.want)
		}
	}
}

// Rows that double each other: their default values have more cells than a number can tell, which is no reason not to end.
func TestZeroOfDoubles(t *testing.T) {
	var rows []api.Type
	for i := range 400 {
		rows = append(rows, row(api.KTuple, i+1, i+1))
	}
	rows = append(rows, row(api.KBool))
	cells := big.NewInt(1)
	for i := len(rows) - 1; i >= 0; i-- {
		for _, most := range []int{0, 1, 1000, 1 << 40, greatest - 1, greatest} {
			fits := cells.Cmp(big.NewInt(int64(most))) <= 0
			if fits && cells.BitLen() > 18 {
				continue // it would be made, and is too large for a test
			}
			v, ok := value.Zero(rows, i, most)
			if ok != fits || ok && value.Size(v, greatest) != int(cells.Int64()) {
				t.Fatalf("row %d of doubles, at most %d: %v", i, most, ok)
			}
		}
		cells.Lsh(cells, 1).Add(cells, big.NewInt(1))
	}
}

// A tuple with very many parts, and one whose parts' cells together pass the greatest number.
func TestZeroOfMany(t *testing.T) {
	many := make([]int, 100000)
	for i := range many {
		many[i] = 1
	}
	rows := []api.Type{row(api.KTuple, many...), row(api.KChan, 0)}
	for _, x := range []struct {
		most int
		want bool
	}{{100000, false}, {100001, true}, {100002, true}} {
		if v, ok := value.Zero(rows, 0, x.most); ok != x.want || ok && value.Size(v, greatest) != 100001 {
			t.Errorf("Zero of many, at most %d: %v", x.most, ok)
		}
	}
	rows = []api.Type{row(api.KTuple, 1, 1, 1, 1, 1, 1, 1, 1, 1, 1), row(api.KInt)}
	for i := range 62 {
		rows[len(rows)-1] = row(api.KTuple, i+2, i+2)
		rows = append(rows, row(api.KInt))
	}
	if _, ok := value.Zero(rows, 0, greatest); ok {
		t.Error("ten times 2^63 cells: true")
	}
}

// plainCells reads the half of P7.3 that counts a second time: nil, if by way of tuples alone a row comes round.
func plainCells(t []api.Type, i int, above map[int]bool) *big.Int {
	out := big.NewInt(1)
	if t[i].Kind != api.KTuple {
		return out
	}
	if above[i] {
		return nil
	}
	above[i] = true
	defer delete(above, i)
	for _, kid := range t[i].Kids {
		part := plainCells(t, kid, above)
		if part == nil {
			return nil
		}
		out.Add(out, part)
	}
	return out
}

// plainZero is a default value, as P7.3 lists them.
func plainZero(t []api.Type, i int) api.Value {
	switch t[i].Kind {
	case api.KInt:
		return num(0)
	case api.KBool:
		return no()
	case api.KArray:
		return array()
	case api.KChan:
		return channel(0)
	case api.KProg:
		return fn(0)
	}
	var list []api.Value
	for _, kid := range t[i].Kids {
		list = append(list, plainZero(t, kid))
	}
	return tuple(list...)
}

// wantZero holds Zero of a row against the second reading, with numbers around its size; it tells whether the row has a default value.
func wantZero(t *testing.T, rows []api.Type, i int) bool {
	t.Helper()
	if !kinds.Valid(rows) || i < 0 || i >= len(rows) {
		if v, ok := value.Zero(rows, i, greatest); ok || !isNone(v) {
			t.Fatalf("Zero(%v, %d): %v, %v", rows, i, v, ok)
		}
		return false
	}
	cells := plainCells(rows, i, map[int]bool{})
	if cells == nil {
		for _, most := range []int{0, 1, 1000, greatest} {
			if v, ok := value.Zero(rows, i, most); ok || !isNone(v) {
				t.Fatalf("Zero(%v, %d, %d): %v, %v", rows, i, most, v, ok)
			}
		}
		return false
	}
	size := int(cells.Int64())
	for _, most := range []int{size - 1, size, size + 1, greatest} {
		v, ok := value.Zero(rows, i, most)
		if ok != (most >= size) || ok && !value.Same(v, plainZero(rows, i)) || !ok && !isNone(v) {
			t.Fatalf("Zero(%v, %d, %d): %v, %v", rows, i, most, v, ok)
		}
	}
	return true
}

// All tables of three rows, of which each is an int, an array or a tuple of two or three.
func TestSmallTables(t *testing.T) {
	choices := []api.Type{row(api.KInt)}
	for a := range 3 {
		choices = append(choices, row(api.KArray, a))
		for b := range 3 {
			choices = append(choices, row(api.KTuple, a, b))
			choices = append(choices, row(api.KTuple, a, b, 2))
		}
	}
	for _, a := range choices {
		for _, b := range choices {
			for _, c := range choices {
				for i := -1; i < 4; i++ {
					wantZero(t, []api.Type{a, b, c}, i)
				}
			}
		}
	}
}

// madeTable has rows of any kind; of its tuples' parts few stand ahead of them, so that not all come back to themselves.
func madeTable(r *rand.Rand) []api.Type {
	n, back := 1+r.IntN(9), r.IntN(3)
	rows := make([]api.Type, n)
	for i := range rows {
		kid := func() int {
			if i+1 < n && r.IntN(10) >= back {
				return i + 1 + r.IntN(n-i-1)
			}
			return r.IntN(n)
		}
		switch r.IntN(9) {
		case 0:
			rows[i] = row(api.KInt)
		case 1:
			rows[i] = row(api.KBool)
		case 2:
			rows[i] = row(api.KArray, kid())
		case 3:
			rows[i] = row(api.KChan, kid())
		case 4:
			rows[i] = api.Type{Kind: api.KProg, Kids: []int{kid(), kid()}, Res: r.IntN(2) == 0}
		default:
			if i+1 == n && r.IntN(4) > 0 {
				rows[i] = row(api.KBool)
				continue
			}
			rows[i] = row(api.KTuple, kid(), kid())
			for range r.IntN(3) {
				rows[i].Kids = append(rows[i].Kids, kid())
			}
		}
	}
	return rows
}

func TestMadeTables(t *testing.T) {
	r := rand.New(rand.NewPCG(7, 2))
	some, none, wrong := 0, 0, 0
	for range 20000 {
		rows := madeTable(r)
		if r.IntN(10) == 0 {
			k := r.IntN(len(rows))
			switch r.IntN(4) {
			case 0:
				rows[k].Kind = r.IntN(10) - 1
			case 1:
				rows[k].Kids = append(rows[k].Kids, r.IntN(len(rows)+2)-1)
			case 2:
				rows[k].Kids = rows[k].Kids[:len(rows[k].Kids)/2]
			case 3:
				rows[k].Res = !rows[k].Res
			}
		}
		for i := -1; i <= len(rows); i++ {
			ok := wantZero(t, rows, i)
			if i < 0 || i == len(rows) {
				continue
			}
			switch {
			case !kinds.Valid(rows):
				wrong++
			case ok && rows[i].Kind == api.KTuple:
				some++
			case !ok:
				none++
			}
		}
	}
	if some < 10000 || none < 5000 || wrong < 3000 {
		t.Errorf("only %d tuples with a default value, %d without, %d rows of wrong tables", some, none, wrong)
	}
}
