package value

import (
	"squint/api"
	"squint/kinds"
)

// Zero is a type's default value; false: it has more than so many cells, or there is none.
func Zero(t []api.Type, row, most int) (api.Value, bool) {
	if !kinds.Valid(t) || row < 0 || row >= len(t) || most < 1 {
		return api.Value{}, false
	}
	rows, ok := behindParts(t, row)
	if !ok || cellsOf(t, rows, uint(most)) > uint(most) {
		return api.Value{}, false
	}
	return filled(t, row), true
}

// How far a row has been looked at.
const (
	unseen = iota
	open   // its parts are being looked at
	done
)

// behindParts tells a row, and those of which its default value is made, each once and behind its parts; false: one comes back to itself.
func behindParts(t []api.Type, row int) ([]int, bool) {
	state := make([]int, len(t))
	var out []int
	left := []int{row}
	for len(left) > 0 {
		one := left[len(left)-1]
		if state[one] == unseen {
			state[one] = open
			for _, kid := range parts(t[one]) {
				if state[kid] == open {
					return nil, false
				}
				left = append(left, kid)
			}
			continue
		}
		left = left[:len(left)-1]
		if state[one] == open {
			state[one] = done
			out = append(out, one)
		}
	}
	return out, true
}

// parts are the rows whose default values stand in a row's own.
func parts(one api.Type) []int {
	if one.Kind == api.KTuple {
		return one.Kids
	}
	return nil
}

// cellsOf is how many cells the default value of the last one of rows has, or some number above most.
// It counts a row once, however often it is a part: rows that double each other soon have more cells than can be gone through.
func cellsOf(t []api.Type, rows []int, most uint) uint {
	cells := make([]uint, len(t))
	sum := uint(0)
counting:
	for _, row := range rows {
		sum = 1
		for _, kid := range parts(t[row]) {
			sum += cells[kid]
			if sum > most {
				break counting
			}
		}
		cells[row] = sum
	}
	return sum
}

// gap is a list of values that are yet to be made, and their rows.
type gap struct {
	rows []int
	list []api.Value
}

// filled is the default value of a row that does not come back to itself.
func filled(t []api.Type, row int) api.Value {
	out := blank(t[row])
	left := []gap{{parts(t[row]), out.List}}
	for len(left) > 0 {
		one := left[len(left)-1]
		left = left[:len(left)-1]
		for i, kid := range one.rows {
			one.list[i] = blank(t[kid])
			if len(one.list[i].List) > 0 {
				left = append(left, gap{t[kid].Kids, one.list[i].List})
			}
		}
	}
	return out
}

// blank is the default value of a row, but that of a tuple's parts none is made yet.
func blank(one api.Type) api.Value {
	v := api.Value{Kind: kindOf[one.Kind]}
	if one.Kind == api.KTuple {
		v.List = make([]api.Value, len(one.Kids))
	}
	return v
}

// kindOf is of a type's kind its values'.
var kindOf = [...]int{
	api.KInt: api.VInt, api.KBool: api.VBool, api.KArray: api.VArray, api.KTuple: api.VTuple, api.KChan: api.VChan, api.KProg: api.VProg,
}
