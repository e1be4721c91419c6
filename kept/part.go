package kept

import "squint/api"

// Set is the value, but that another one stands at a path (of part's numbers, and of -1 where the next one of the indices counts); or the trap of the first step that leads nowhere; or false: it has more cells than are left.
func (v Value) Set(path []int, indices []Value, one Value, left int) (Value, int, bool) {
	way, was, why := v.way(path, indices)
	if why != 0 {
		return Value{}, why, false
	}
	stays := v.Cells() - was.Cells()
	if one.Cells() > left-stays {
		return Value{}, 0, false
	}
	return v.with(way, one), 0, true
}

// way is the way down by a path, as numbers, and what stands at its end; or a trap.
func (v Value) way(path []int, indices []Value) ([]int, Value, int) {
	var way []int
	for _, k := range path {
		kind, missing := api.VTuple, api.TrapWrong
		if k < 0 {
			if indices[0].Kind != api.VInt {
				return nil, Value{}, api.TrapWrong
			}
			kind, missing = api.VArray, api.TrapIndex
			k, indices = indices[0].Num, indices[1:]
		}
		if v.Kind != kind {
			return nil, Value{}, api.TrapWrong
		}
		if k < 0 || k >= v.Many() {
			return nil, Value{}, missing
		}
		way = append(way, k)
		v = v.At(k)
	}
	return way, v, 0
}

// with is the value, but that another one stands at the end of a way.
func (v Value) with(way []int, one Value) Value {
	above := make([]Value, len(way))
	for at, k := range way {
		above[at], v = v, v.At(k)
	}
	for at := len(way) - 1; at >= 0; at-- {
		of := above[at]
		of.in = of.in.with(way[at], one)
		one = of
	}
	return one
}
