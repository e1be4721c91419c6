package walk_test

import (
	"slices"
	"unsafe"

	"squint/api"
)

// mark is what stands in the room behind lists.
var mark = api.Value{Kind: 4712, Num: 4712}

// roomy is a value whose lists have room behind their ends, with marks in it; some of an empty list too.
func roomy(v api.Value) api.Value {
	list := make([]api.Value, 0, len(v.List)+2)
	for _, one := range v.List {
		list = append(list, roomy(one))
	}
	v.List = append(list, mark, mark)[:len(v.List)]
	return v
}

// whole is a copy of a value, in which what stands in the room behind its lists is theirs.
func whole(v api.Value) api.Value {
	var out []api.Value
	for _, one := range v.List[:cap(v.List)] {
		out = append(out, whole(one))
	}
	v.List = out
	return v
}

// spoil writes over lists, and over the room behind them.
func spoil(list []api.Value) {
	list = list[:cap(list)]
	for k := range list {
		spoil(list[k].List)
		list[k] = api.Value{Kind: 4711, Num: 4711, List: []api.Value{{Kind: api.VChan, Num: 4711}}}
	}
}

func spoilPause(p api.Pause) {
	spoil(p.Fn.List)
	spoil(p.Args)
	for k, arm := range p.Arms[:cap(p.Arms)] {
		spoil(arm.Value.List)
		p.Arms[:cap(p.Arms)][k] = api.Arm{Chan: 4711, Send: true, Value: channel(4711)}
	}
}

// roomyNodes is a copy of a tree, likewise.
func roomyNodes(l []api.Node) []api.Node {
	out := append(slices.Clone(l), api.Node{Kind: 4712})[:len(l)]
	for k, one := range out {
		out[k].Kids = append(slices.Clone(one.Kids), 4712)[:len(one.Kids)]
	}
	return out
}

func wholeNodes(l []api.Node) []api.Node {
	out := slices.Clone(l[:cap(l)])
	for k, one := range out {
		out[k].Kids = slices.Clone(one.Kids[:cap(one.Kids)])
	}
	return out
}

func spoilNodes(l []api.Node) {
	for k, one := range l {
		for at := range one.Kids {
			one.Kids[at] = 4711
		}
		l[k] = api.Node{Kind: 4711, Num: 4711, Name: "spoilt"}
	}
}

// span is where a list lies, the room behind it too.
type span struct{ from, to uintptr }

func spanOf[T any](list []T) []span {
	if cap(list) == 0 {
		return nil
	}
	var one T
	from := uintptr(unsafe.Pointer(unsafe.SliceData(list)))
	return []span{{from, from + uintptr(cap(list))*unsafe.Sizeof(one)}}
}

func spansOfList(list []api.Value) []span {
	out := spanOf(list)
	for _, one := range list[:cap(list)] {
		out = append(out, spansOfList(one.List)...)
	}
	return out
}

// spansOf are those of all lists of a pause.
func spansOf(p api.Pause) []span {
	out := slices.Concat(spansOfList(p.Fn.List), spansOfList(p.Args), spanOf(p.Arms))
	for _, arm := range p.Arms {
		out = append(out, spansOfList(arm.Value.List)...)
	}
	return out
}

// apart tells whether no two of the spans meet.
func apart(all []span) bool {
	slices.SortFunc(all, func(a, b span) int { return int(a.from) - int(b.from) })
	for k := 1; k < len(all); k++ {
		if all[k].from < all[k-1].to {
			return false
		}
	}
	return true
}
