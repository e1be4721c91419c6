package value

import "squint/api"

// Part is the part at a path.
func Part(v api.Value, path []int) (api.Value, bool) {
	part, ok := find(v, path)
	if !ok {
		return api.Value{}, false
	}
	return own(part), true
}

// With is a value with the part at a path another one; false: there is no such part.
func With(v api.Value, path []int, part api.Value) (api.Value, bool) {
	if _, ok := find(v, path); !ok {
		return api.Value{}, false
	}
	out := own(v)
	place := &out
	for _, k := range path {
		place = &place.List[k]
	}
	*place = own(part)
	return out, true
}

// find is Part, but that what it answers is v's memory.
func find(v api.Value, path []int) (api.Value, bool) {
	for _, k := range path {
		if v.Kind != api.VArray && v.Kind != api.VTuple || k < 0 || k >= len(v.List) {
			return api.Value{}, false
		}
		v = v.List[k]
	}
	return v, true
}

// own is a value in memory of its own, down to the lists in its lists.
func own(v api.Value) api.Value {
	v.List = copied(v.List)
	left := [][]api.Value{v.List}
	for len(left) > 0 {
		list := left[len(left)-1]
		left = left[:len(left)-1]
		for i := range list {
			list[i].List = copied(list[i].List)
			if len(list[i].List) > 0 {
				left = append(left, list[i].List)
			}
		}
	}
	return v
}

// copied is a list in memory of its own; of an empty one, which may have room behind its end that is another's, nil.
func copied(list []api.Value) []api.Value {
	if len(list) == 0 {
		return nil
	}
	out := make([]api.Value, len(list))
	copy(out, list)
	return out
}
