package build_test

import (
	"math/rand/v2"
	"reflect"
	"slices"
	"testing"
	"unsafe"

	"squint/api"
	"squint/build"
)

func copyOf(l []api.Node) []api.Node {
	out := slices.Clone(l)
	for i := range out {
		out[i].Kids = slices.Clone(out[i].Kids)
	}
	return out
}

// some are made programs, of which nothing is wrong.
func some(t *testing.T, seed uint64, many int, do func(r *rand.Rand, l []api.Node)) {
	t.Helper()
	r := rand.New(rand.NewPCG(10, seed))
	for range many {
		m := &maker{Rand: r}
		do(r, parsed(t, m.program()))
	}
}

// P10.4: lists that are the same but for At have the same unit; and a list has one.
func TestPlacesInTheSource(t *testing.T) {
	some(t, 2, 1500, func(r *rand.Rand, l []api.Node) {
		want := built(t, l)
		other := copyOf(l)
		for i := range other {
			other[i].At = []int{0, i, r.IntN(9), r.Int()}[r.IntN(4)]
		}
		if got := built(t, other); !reflect.DeepEqual(got, want) {
			t.Fatalf("%s: another unit with other places", shown(l))
		}
		for range 2 {
			if got := built(t, l); !reflect.DeepEqual(got, want) {
				t.Fatalf("%s: another unit the second time", shown(l))
			}
		}
	})
}

// spoilt is a list in which something may be wrong.
func spoilt(r *rand.Rand, l []api.Node) []api.Node {
	l = copyOf(l)
	for range 1 + r.IntN(2) {
		one := &l[r.IntN(len(l))]
		switch r.IntN(6) {
		case 0:
			one.Kind = r.IntN(50)
		case 1:
			one.Num = r.IntN(50) - 1
		case 2:
			one.Name = []string{"", "x", "val", "input", "I"}[r.IntN(5)]
		case 3:
			one.Kids = append(one.Kids, r.IntN(len(l)))
		case 4:
			*one = l[r.IntN(len(l))]
		case 5:
			l = l[:r.IntN(len(l)+1)]
			if len(l) == 0 {
				return l
			}
		}
	}
	return l
}

// P10.1: whatever is wrong, it is check's fault.
func TestSpoilt(t *testing.T) {
	refused := 0
	some(t, 3, 6000, func(r *rand.Rand, l []api.Node) {
		l = spoilt(r, l)
		if _, f := build.Build(l); f.Code != api.OK {
			refused++
			wantFault(t, l, f)
			return
		}
		built(t, l)
	})
	if refused < 3000 || refused > 5950 {
		t.Error("refused:", refused)
	}
}

// withRoom gives each list spare room, with marks in it.
func withRoom(l []api.Node) []api.Node {
	mark := api.Node{Kind: 4711, Name: "mark", Kids: []int{4711}}
	l = append(copyOf(l), mark, mark)[:len(l)]
	for i, n := range l {
		l[i].Kids = append(n.Kids, 4711, 4712)[:len(n.Kids)]
	}
	return l
}

// stretched is a copy in which what stands in the room behind the lists is theirs.
func stretched(l []api.Node) []api.Node {
	l = slices.Clone(l[:cap(l)])
	for i, n := range l {
		l[i].Kids = slices.Clone(n.Kids[:cap(n.Kids)])
	}
	return l
}

// R4: what is handed in stays as it is, the room behind it too.
func TestNotChanged(t *testing.T) {
	some(t, 4, 800, func(r *rand.Rand, l []api.Node) {
		if r.IntN(4) == 0 {
			l = spoilt(r, l)
		}
		l = withRoom(l)
		ahead := stretched(l)
		build.Build(l)
		if !reflect.DeepEqual(stretched(l), ahead) {
			t.Fatalf("%s: changed", shown(l))
		}
	})
}

// R3: nil lists and empty ones are the same.
func TestNothing(t *testing.T) {
	some(t, 5, 300, func(_ *rand.Rand, l []api.Node) {
		other := copyOf(l)
		for i, n := range other {
			if len(n.Kids) == 0 {
				other[i].Kids = []int{}
				l[i].Kids = nil
			}
		}
		if a, b := built(t, l), built(t, other); !reflect.DeepEqual(a, b) {
			t.Fatalf("%s: another unit", shown(l))
		}
	})
}

// span is where a list lies, its spare room too.
type span struct{ from, to uintptr }

func spanOf[T any](list []T) span {
	var one T
	from := uintptr(unsafe.Pointer(unsafe.SliceData(list)))
	return span{from, from + uintptr(cap(list))*unsafe.Sizeof(one)}
}

// spans are those of all lists of a unit that have any room.
func spans(u api.Unit) []span {
	out := []span{spanOf(u.Types), spanOf(u.Progs)}
	for _, one := range u.Types {
		out = append(out, spanOf(one.Kids))
	}
	for _, p := range u.Progs {
		out = append(out, spanOf(p.Code))
		for _, i := range p.Code {
			out = append(out, spanOf(i.List))
		}
	}
	return slices.DeleteFunc(out, func(s span) bool { return s.from == s.to })
}

// R4: no two lists share memory, neither of one answer nor of two, nor with what was handed in.
func TestNewMemory(t *testing.T) {
	some(t, 6, 500, func(_ *rand.Rand, l []api.Node) {
		a, b := built(t, l), built(t, l)
		all := append(spans(a), spans(b)...)
		all = append(all, spanOf(l))
		for _, n := range l {
			if cap(n.Kids) > 0 {
				all = append(all, spanOf(n.Kids))
			}
		}
		slices.SortFunc(all, func(x, y span) int { return int(x.from) - int(y.from) })
		for k := range all[1:] {
			if all[k].to > all[k+1].from {
				t.Fatalf("%s: two lists share memory", shown(l))
			}
		}
	})
}
