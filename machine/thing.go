package machine

import (
	"slices"

	"squint/api"
)

// thing is a value as machines keep it: what stands in it is never changed once it is made, so that whoever has it, clones and children too, may share it.
type thing struct {
	kind, num int
	in        *inside // nil: nothing stands in it
}

// inside is what stands in a value.
type inside struct {
	list []thing // of a filled array just one, as all of them are alike
	many int     // how many there are
	// What is kept once may stand in a value more often than could be counted afterwards, so the cells of all of them together are known from the beginning.
	cells int
	chans bool // whether there is a channel, however deep
}

// many is how many values stand in a thing.
func (t thing) many() int {
	if t.in == nil {
		return 0
	}
	return t.in.many
}

// at is one of the values that stand in a thing.
func (t thing) at(k int) thing {
	return t.in.list[min(k, len(t.in.list)-1)]
}

// all is a new list of the values that stand in a thing.
func (t thing) all() []thing {
	out := make([]thing, t.many())
	for k := range out {
		out[k] = t.at(k)
	}
	return out
}

// cells is how many a thing has.
func (t thing) cells() int {
	if t.in == nil {
		return 1
	}
	return 1 + t.in.cells
}

// chans tells whether a thing is a channel, or one stands in it.
func (t thing) chans() bool {
	return t.kind == api.VChan || t.in != nil && t.in.chans
}

// together is a thing with these values in it; the list is its own from then on.
func together(kind, num int, list []thing) thing {
	if len(list) == 0 {
		return thing{kind: kind, num: num}
	}
	in := &inside{list: list, many: len(list)}
	for _, one := range list {
		in.cells += one.cells()
		in.chans = in.chans || one.chans()
	}
	return thing{kind, num, in}
}

// filled is an array of so many of one value.
func filled(many int, one thing) thing {
	if many == 0 {
		return thing{kind: api.VArray}
	}
	return thing{api.VArray, 0, &inside{[]thing{one}, many, many * one.cells(), one.chans()}}
}

// keep is a value that is handed in, as a machine keeps it.
func keep(v api.Value) thing {
	return together(v.Kind, v.Num, keepAll(v.List))
}

func keepAll(list []api.Value) []thing {
	out := make([]thing, len(list))
	for k, one := range list {
		out[k] = keep(one)
	}
	return out
}

// told is a thing as it is answered: in memory of its own.
func (t thing) told() api.Value {
	return api.Value{Kind: t.kind, Num: t.num, List: toldAll(t.all())}
}

func toldAll(list []thing) []api.Value {
	var out []api.Value
	for _, one := range list {
		out = append(out, one.told())
	}
	return out
}

// channels are those above 0 in a list, however deep, rising, each once.
func channels(list []thing) []int {
	var out []int
	// What stands in many things, but is kept once, is looked at once.
	seen := map[*inside]struct{}{}
	left := [][]thing{list}
	for len(left) > 0 {
		next := left[len(left)-1]
		left = left[:len(left)-1]
		for _, one := range next {
			if one.kind == api.VChan && one.num > 0 {
				out = append(out, one.num)
			}
			if one.in == nil || !one.in.chans {
				continue
			}
			if _, ok := seen[one.in]; !ok {
				seen[one.in] = struct{}{}
				left = append(left, one.in.list)
			}
		}
	}
	slices.Sort(out)
	return slices.Compact(out)
}
