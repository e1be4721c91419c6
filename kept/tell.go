package kept

import (
	"slices"

	"squint/api"
)

// Values may stand in one another as deep as there are instructions and rounds to make them, deeper than calls can: so each of these goes through them by a list of what is left.

// open is a value that is handed in and being gone through.
type open struct {
	of   api.Value
	list []Value // what stands in it, as far as it is kept by now
}

// Keep is a value that is handed in, in memory of its own.
func Keep(v api.Value) Value {
	var done Value
	left := []open{{of: v}}
	for len(left) > 0 {
		last := &left[len(left)-1]
		if k := len(last.list); k < len(last.of.List) {
			left = append(left, open{of: last.of.List[k]})
			continue
		}
		done = Value{last.of.Kind, last.of.Num, listed(last.list)}
		left = left[:len(left)-1]
		if len(left) > 0 {
			above := &left[len(left)-1]
			above.list = append(above.list, done)
		}
	}
	return done
}

// KeepAll keeps each value of a list.
func KeepAll(list []api.Value) []Value {
	var out []Value
	for _, one := range list {
		out = append(out, Keep(one))
	}
	return out
}

// gap is a list of values that are yet to be told.
type gap struct {
	to   []api.Value
	from []Value
}

// Tell is a value as it is answered, in memory of its own.
func (v Value) Tell() api.Value { return TellAll([]Value{v})[0] }

// TellAll tells each value of a list.
func TellAll(list []Value) []api.Value {
	out := room(len(list))
	left := []gap{{out, list}}
	for len(left) > 0 {
		next := left[len(left)-1]
		left = left[:len(left)-1]
		for k, one := range next.from {
			next.to[k] = one.Head()
			if one.in != nil {
				next.to[k].List = room(one.in.many)
				left = append(left, gap{next.to[k].List, one.in.all()})
			}
		}
	}
	return out
}

// room is for so many values: no list, if there are none.
func room(many int) []api.Value {
	if many == 0 {
		return nil
	}
	return make([]api.Value, many)
}

// Channels are those above 0 in a list, however deep, rising, each once.
func Channels(list []Value) []int {
	var out []int
	var left []*inside
	look := func(list []Value) {
		for _, one := range list {
			if one.Kind == api.VChan && one.Num > 0 {
				out = append(out, one.Num)
			}
			left = append(left, one.in)
		}
	}
	look(list)
	// What stands in many values, but is kept once, is looked at once.
	seen := map[*inside]struct{}{}
	for len(left) > 0 {
		next := left[len(left)-1]
		left = left[:len(left)-1]
		if next == nil || !next.channel {
			continue
		}
		if _, ok := seen[next]; ok {
			continue
		}
		seen[next] = struct{}{}
		left = append(left, next.low, next.high)
		look(next.list)
	}
	slices.Sort(out)
	return slices.Compact(out)
}
