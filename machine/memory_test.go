package machine_test

import (
	"slices"
	"unsafe"

	"squint/api"
)

// mark is what stands in the room behind lists.
var mark = api.Value{Kind: 4712, Num: 4712}

// roomy is a value whose lists have room behind their ends, with marks in it; some of an empty list too.
func roomy(v api.Value) api.Value {
	list := make([]api.Value, 0, len(v.List)+2)
	for _, one := range v.List {
		list = append(list, roomy(one))
	}
	v.List = append(list, mark, mark)[:len(v.List)]
	return v
}

// whole is a copy of a value, in which what stands in the room behind its lists is theirs.
func whole(v api.Value) api.Value {
	var out []api.Value
	for _, one := range v.List[:cap(v.List)] {
		out = append(out, whole(one))
	}
	v.List = out
	return v
}

// spoil writes over lists, and over the room behind them.
func spoil(list []api.Value) {
	list = list[:cap(list)]
	for k := range list {
		spoil(list[k].List)
		list[k] = api.Value{Kind: 4711, Num: 4711, List: []api.Value{{Kind: api.VChan, Num: 4711}}}
	}
}

func spoilPause(p api.Pause) {
	spoil(p.Fn.List)
	spoil(p.Args)
	for k, arm := range p.Arms[:cap(p.Arms)] {
		spoil(arm.Value.List)
		p.Arms[:cap(p.Arms)][k] = api.Arm{Chan: 4711, Send: true, Value: channel(4711)}
	}
}

// roomyUnit is a copy of a unit, likewise.
func roomyUnit(u api.Unit) api.Unit {
	u = copyUnit(u)
	u.Types = append(u.Types, api.Type{Kind: 4712})[:len(u.Types)]
	for k, one := range u.Types {
		u.Types[k].Kids = append(one.Kids, 4712)[:len(one.Kids)]
	}
	u.Progs = append(u.Progs, api.Prog{Slots: 4712})[:len(u.Progs)]
	for k, one := range u.Progs {
		for at, i := range one.Code {
			one.Code[at].List = append(i.List, 4712)[:len(i.List)]
		}
		u.Progs[k].Code = append(one.Code, api.Ins{Op: 4712})[:len(one.Code)]
	}
	return u
}

func wholeUnit(u api.Unit) api.Unit {
	u.Types, u.Progs = slices.Clone(u.Types[:cap(u.Types)]), slices.Clone(u.Progs[:cap(u.Progs)])
	for k, one := range u.Types {
		u.Types[k].Kids = one.Kids[:cap(one.Kids)]
	}
	for k, one := range u.Progs {
		u.Progs[k].Code = one.Code[:cap(one.Code)]
	}
	return copyWhole(u)
}

// copyWhole copies a unit, with the room behind the lists of its instructions.
func copyWhole(u api.Unit) api.Unit {
	out := copyUnit(u)
	for k, one := range u.Progs {
		for at, i := range one.Code {
			out.Progs[k].Code[at].List = slices.Clone(i.List[:cap(i.List)])
		}
	}
	return out
}

func spoilUnit(u api.Unit) {
	for _, one := range u.Types {
		for k := range one.Kids {
			one.Kids[k] = 4711
		}
	}
	for _, one := range u.Progs {
		for at, i := range one.Code {
			for k := range i.List {
				i.List[k] = 4711
			}
			one.Code[at] = api.Ins{Op: 4711, A: -1}
		}
	}
	for k := range u.Types {
		u.Types[k] = api.Type{Kind: 4711}
	}
	for k := range u.Progs {
		u.Progs[k] = api.Prog{Params: 4711}
	}
}

// span is where a list lies, the room behind it too.
type span struct{ from, to uintptr }

func spanOf[T any](list []T) []span {
	if cap(list) == 0 {
		return nil
	}
	var one T
	from := uintptr(unsafe.Pointer(unsafe.SliceData(list)))
	return []span{{from, from + uintptr(cap(list))*unsafe.Sizeof(one)}}
}

func spansOfList(list []api.Value) []span {
	out := spanOf(list)
	for _, one := range list[:cap(list)] {
		out = append(out, spansOfList(one.List)...)
	}
	return out
}

// spansOf are those of all lists of a pause.
func spansOf(p api.Pause) []span {
	out := slices.Concat(spansOfList(p.Fn.List), spansOfList(p.Args), spanOf(p.Arms))
	for _, arm := range p.Arms {
		out = append(out, spansOfList(arm.Value.List)...)
	}
	return out
}

// apart tells whether no two of the spans meet.
func apart(all []span) bool {
	slices.SortFunc(all, func(a, b span) int { return int(a.from) - int(b.from) })
	for k := 1; k < len(all); k++ {
		if all[k].from < all[k-1].to {
			return false
		}
	}
	return true
}
