package kept

import (
	"math"

	"squint/api"
)

// How far a row has been looked at.
const (
	unseen = iota
	begun  // its parts are being looked at
	ended
)

// Zeros are the default values of a table's rows, each made once, however often it is a part: rows that double each other soon have more cells than could be laid out.
// A row has none (no kind), if its value never ended, or had more cells than a number can tell.
func Zeros(t []api.Type) []Value {
	out := make([]Value, len(t))
	state := make([]int, len(t))
	for row := range t {
		left := []int{row}
		for len(left) > 0 {
			one := left[len(left)-1]
			switch state[one] {
			case unseen:
				state[one] = begun
				left = append(left, partsOf(t[one])...)
			case begun:
				// Where it comes back to itself it has no value as yet, and so it gets none.
				out[one] = zero(t[one], out)
				state[one] = ended
				left = left[:len(left)-1]
			default:
				left = left[:len(left)-1]
			}
		}
	}
	return out
}

// zero is the default value of a row, made of those of its parts.
func zero(row api.Type, of []Value) Value {
	left := math.MaxInt - 1
	var list []Value
	for _, kid := range partsOf(row) {
		one := of[kid]
		if one.Kind == api.VNone || one.Cells() > left {
			return Value{}
		}
		left -= one.Cells()
		list = append(list, one)
	}
	return Value{kindOf[row.Kind], 0, listed(list)}
}

// partsOf are the rows whose default values stand in a row's own.
func partsOf(row api.Type) []int {
	if row.Kind == api.KTuple {
		return row.Kids
	}
	return nil
}

// kindOf is of a type's kind its values'.
var kindOf = [...]int{
	api.KInt: api.VInt, api.KBool: api.VBool, api.KArray: api.VArray, api.KTuple: api.VTuple, api.KChan: api.VChan, api.KProg: api.VProg,
}
