package kinds

import "squint/api"

// Valid tells whether rows may be types.
func Valid(t []api.Type) bool {
	for _, row := range t {
		if !fits(row) {
			return false
		}
		for _, kid := range row.Kids {
			if !isRow(t, kid) {
				return false
			}
		}
	}
	return true
}

func isRow(t []api.Type, i int) bool { return i >= 0 && i < len(t) }

// fits tells whether a row has so many Kids, and such a Res, as its Kind wants.
func fits(row api.Type) bool {
	kids := len(row.Kids)
	switch row.Kind {
	case api.KInt, api.KBool:
		return kids == 0 && !row.Res
	case api.KArray, api.KChan:
		return kids == 1 && !row.Res
	case api.KTuple:
		return kids >= 2 && !row.Res
	case api.KProg:
		return kids >= 1 || !row.Res
	}
	return false
}

// head is what an unfolding shows at its root.
type head struct {
	kind, kids int
	res        bool
}

func headOf(row api.Type) head {
	return head{kind: row.Kind, kids: len(row.Kids), res: row.Res}
}

// pair is two rows that must be the same, if those that are asked for are.
type pair struct{ a, b int }

// Same tells whether two rows are the same type.
func Same(t []api.Type, a, b int) bool {
	if !Valid(t) || !isRow(t, a) || !isRow(t, b) {
		return false
	}
	// Rows that are taken for the same lead to one: two of these are never held against each other again, so that it ends where rows go round.
	one := eachItself(len(t))
	pairs := []pair{{a, b}}
	for len(pairs) > 0 {
		p := pairs[len(pairs)-1]
		pairs = pairs[:len(pairs)-1]
		x, y := last(one, p.a), last(one, p.b)
		if x == y {
			continue
		}
		if headOf(t[x]) != headOf(t[y]) {
			return false
		}
		one[x] = y
		for k, kid := range t[x].Kids {
			pairs = append(pairs, pair{kid, t[y].Kids[k]})
		}
	}
	return true
}
