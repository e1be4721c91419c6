package kept

// inside is what stands in a value: one or more values.
type inside struct {
	list      []Value // just one, if all are alike; none, if there are two halves
	low, high *inside
	many      int
	// What is kept once may stand in a value more often than could be counted afterwards, so the cells of all of them together are known from the beginning.
	cells   int
	channel bool // whether there is one, however deep
}

// short is how many values may be copied where one of them changes. Of more just the half in which it stands is made anew, so that it does not matter how many there are.
const short = 32

// listed has the values of a list, which is its own from then on.
func listed(list []Value) *inside {
	if len(list) == 0 {
		return nil
	}
	in := &inside{list: list, many: len(list)}
	for _, one := range list {
		in.cells += one.Cells()
		in.channel = in.channel || one.hasChannel()
	}
	return in
}

// alike has so many of one value.
func alike(many int, one Value) *inside {
	if many == 0 {
		return nil
	}
	return &inside{list: []Value{one}, many: many, cells: many * one.Cells(), channel: one.hasChannel()}
}

// joined has the values of both.
func joined(low, high *inside) *inside {
	return &inside{low: low, high: high, many: low.many + high.many, cells: low.cells + high.cells, channel: low.channel || high.channel}
}

func (in *inside) halves() (*inside, *inside) {
	half := in.many / 2
	if in.low != nil {
		return in.low, in.high
	}
	if len(in.list) == in.many {
		return listed(in.list[:half:half]), listed(in.list[half:])
	}
	return alike(half, in.list[0]), alike(in.many-half, in.list[0])
}

func (in *inside) at(k int) Value {
	for in.low != nil {
		if k < in.low.many {
			in = in.low
		} else {
			k -= in.low.many
			in = in.high
		}
	}
	return in.list[min(k, len(in.list)-1)]
}

// with is as it is, but that at one place there is another value.
func (in *inside) with(k int, one Value) *inside {
	if in.many <= short {
		list := in.all()
		list[k] = one
		return listed(list)
	}
	low, high := in.halves()
	if k < low.many {
		return joined(low.with(k, one), high)
	}
	return joined(low, high.with(k-low.many, one))
}

// all is a new list of the values.
func (in *inside) all() []Value {
	out := make([]Value, 0, in.many)
	left := []*inside{in}
	for len(left) > 0 {
		next := left[len(left)-1]
		left = left[:len(left)-1]
		if next.low != nil {
			left = append(left, next.high, next.low)
			continue
		}
		out = append(out, next.list...)
		for range next.many - len(next.list) {
			out = append(out, next.list[0])
		}
	}
	return out
}
