package value_test

import (
	"cmp"
	"math/rand/v2"
	"reflect"
	"slices"
	"testing"
	"unsafe"

	"squint/api"
	"squint/kinds"
	"squint/parse"
	"squint/value"
)

// P7.10: what With puts at a path is there, and nowhere else.
func TestWithAndPart(t *testing.T) {
	eachValue(6, 8000, func(m maker, v api.Value) {
		all := paths(v)
		path, part := all[m.IntN(len(all))], m.value(2)
		was, ok := value.Part(v, path)
		if again, has := value.With(v, path, was); !ok || !has || !value.Same(again, v) {
			t.Fatalf("With(%v, %v, its own part): %v", v, path, again)
		}
		with, _ := value.With(v, path, part)
		if got, has := value.Part(with, path); !has || !value.Same(got, part) {
			t.Fatalf("Part of With(%v, %v, %v): %v", v, path, part, got)
		}
		if value.Size(with, greatest) != value.Size(v, greatest)-value.Size(was, greatest)+value.Size(part, greatest) {
			t.Fatalf("Size of With(%v, %v, %v)", v, path, part)
		}
		for _, other := range all {
			n := min(len(other), len(path))
			if slices.Equal(other[:n], path[:n]) {
				continue // on the way there, or below it
			}
			a, _ := value.Part(v, other)
			if b, has := value.Part(with, other); !has || !value.Same(a, b) {
				t.Fatalf("With(%v, %v, %v) at %v: %v, %v", v, path, part, other, b, has)
			}
		}
	})
}

// P7.10
func TestZeroIsValid(t *testing.T) {
	r := rand.New(rand.NewPCG(7, 3))
	for range 10000 {
		rows := madeTable(r)
		for i := range rows {
			v, ok := value.Zero(rows, i, 1<<20)
			if ok && (!value.Valid(v) || len(value.Chans(v)) > 0 || value.Size(v, 1<<20) > 1<<20) {
				t.Fatalf("Zero(%v, %d): %v", rows, i, v)
			}
		}
	}
}

// All rows of a program have a default value, as kinds refuses what comes back to itself.
func TestZeroOfPrograms(t *testing.T) {
	for _, x := range []struct {
		typ  string
		want api.Value
	}{
		{"int", num(0)}, {"bool", no()}, {"array of int", array()}, {"chan of bool", channel(0)}, {"prog(int): int", fn(0)}, {"(int, bool)", tuple(num(0), no())},
		{"(A, B, (bool, B))", tuple(tuple(num(0), array()), channel(0), tuple(no(), channel(0)))},
	} {
		l, _ := parse.Parse([]byte("type A = (int, array of A); type B = chan of (B, A); var x: "+x.typ+";"), 100)
		rows, of, f := kinds.Table(l)
		if f.Code != api.OK {
			t.Fatalf("%s: %v", x.typ, f)
		}
		for i, n := range l {
			if n.Kind != api.SVar {
				continue
			}
			if v, ok := value.Zero(rows, of[l[i].Kids[0]], 99); !ok || !value.Same(v, x.want) {
				t.Errorf("%s: %v, %v", x.typ, v, ok)
			}
		}
		for i := range rows {
			if _, ok := value.Zero(rows, i, 99); !ok {
				t.Errorf("%s: row %d has no default value", x.typ, i)
			}
		}
	}
}

// full is a value whose lists all have spare room behind their ends, full of marks; some of an empty list too.
func full(v api.Value) api.Value {
	room := make([]api.Value, 0, len(v.List)+2)
	for _, one := range v.List {
		room = append(room, full(one))
	}
	whole := room[:cap(room)]
	for i := len(room); i < len(whole); i++ {
		whole[i] = odd(77, i, num(i))
	}
	v.List = room
	return v
}

// withRoom is what full made, with its spare rooms' values as parts, so that two can be held against each other.
func withRoom(v api.Value) api.Value {
	out := api.Value{Kind: v.Kind, Num: v.Num, List: []api.Value{}}
	for _, one := range v.List[:cap(v.List)] {
		out.List = append(out.List, withRoom(one))
	}
	return out
}

// span is where a list lies in memory, its spare room with it.
type span struct{ from, to uintptr }

func spans(v api.Value) []span {
	whole := v.List[:cap(v.List)]
	if len(whole) == 0 {
		return nil
	}
	from := uintptr(unsafe.Pointer(unsafe.SliceData(whole)))
	out := []span{{from, from + uintptr(len(whole))*unsafe.Sizeof(v)}}
	for _, one := range whole {
		out = append(out, spans(one)...)
	}
	return out
}

// apart tells whether no two of the spans meet, and none meets one of others.
func apart(own, others []span) bool {
	slices.SortFunc(own, func(a, b span) int { return cmp.Compare(a.from, b.from) })
	for i := 1; i < len(own); i++ {
		if own[i].from < own[i-1].to {
			return false
		}
	}
	for _, a := range own {
		for _, b := range others {
			if a.from < b.to && b.from < a.to {
				return false
			}
		}
	}
	return true
}

// P7.9, R4: of what is answered no list is one that was handed in, nor two are one.
func TestMemoryOfParts(t *testing.T) {
	lists := 0
	eachValue(7, 6000, func(m maker, v api.Value) {
		path := m.somePath(v)
		given, part := full(v), full(m.value(3))
		way := append(slices.Clone(path), 5, 6)[:len(path)]
		keep, keepPart := withRoom(given), withRoom(part)
		in := append(spans(given), spans(part)...)
		a, ok := value.Part(given, way)
		b, also := value.With(given, way, part)
		c, _ := value.With(given, nil, part)
		if ok != also || !apart(slices.Concat(spans(a), spans(b), spans(c)), in) {
			t.Fatalf("Part, With(%v, %v, %v): memory of what was handed in, or of each other", v, path, part)
		}
		lists += len(spans(a)) + len(spans(b))
		value.Valid(given)
		value.Size(given, m.IntN(20))
		value.Chans(given)
		value.Same(given, part)
		value.Bin(m.IntN(50), given, part)
		value.Unary(m.IntN(4), given)
		if !reflect.DeepEqual(withRoom(given), keep) || !reflect.DeepEqual(withRoom(part), keepPart) || !slices.Equal(way[:len(path)+2], append(slices.Clone(path), 5, 6)) {
			t.Fatalf("%v, %v, %v: what was handed in is changed", v, path, part)
		}
	})
	if lists < 10000 {
		t.Errorf("only %d lists were answered", lists)
	}
}

// What stands twice in a value that is handed in, in one memory, has two in an answer.
func TestMemoryOfTwins(t *testing.T) {
	one := array(num(1), channel(2))
	twins := array(one, tuple(one, one), fn(3, one))
	for _, path := range paths(twins) {
		a, _ := value.Part(twins, path)
		b, _ := value.With(twins, path, twins)
		c, _ := value.With(b, path, one)
		if !apart(slices.Concat(spans(a), spans(b), spans(c)), spans(twins)) {
			t.Errorf("%v: lists of an answer share memory", path)
		}
		if !value.Same(b, plainWith(twins, path, twins)) || !value.Same(c, plainWith(twins, path, one)) {
			t.Errorf("With(twins, %v): %v, %v", path, b, c)
		}
	}
}

// R4, R5 of Zero: the table is as it was, and no answer shows another one.
func TestMemoryOfZero(t *testing.T) {
	r := rand.New(rand.NewPCG(7, 4))
	for range 3000 {
		rows := madeTable(r)
		given := make([]api.Type, 0, len(rows)+1)
		for _, one := range rows {
			given = append(given, api.Type{Kind: one.Kind, Kids: append(slices.Clone(one.Kids), 88)[:len(one.Kids)], Res: one.Res})
		}
		given[:cap(given)][len(rows)] = row(99)
		i := r.IntN(len(rows))
		a, ok := value.Zero(given, i, 5000)
		b, also := value.Zero(given, i, 5000)
		if ok != also || !apart(append(spans(a), spans(b)...), nil) {
			t.Fatalf("Zero(%v, %d): two answers share memory", rows, i)
		}
		for k, one := range given {
			if !slices.Equal(one.Kids, rows[k].Kids) || one.Kids[:cap(one.Kids)][len(one.Kids)] != 88 {
				t.Fatalf("Zero(%v, %d): the table is changed", rows, i)
			}
		}
		if given[:cap(given)][len(rows)].Kind != 99 {
			t.Fatalf("Zero(%v, %d): the room behind the table is changed", rows, i)
		}
	}
}

// R4 of Chans.
func TestMemoryOfChans(t *testing.T) {
	v := array(channel(3), channel(1), channel(3), channel(2))
	first := value.Chans(v)
	for i := range first[:cap(first)] {
		first[:cap(first)][i] = 99
	}
	if l := value.Chans(v); !slices.Equal(l, []int{1, 2, 3}) || v.List[0].Num != 3 {
		t.Errorf("Chans(%v), once more: %v", v, l)
	}
}

// R9: as many parts in one another as it lets there be.
func TestDeepValues(t *testing.T) {
	const deep = 1 << 16
	for _, kind := range []int{api.VArray, api.VTuple, api.VProg} {
		v, cells := channel(7), 1
		var path []int
		for range deep - 1 {
			switch kind {
			case api.VArray:
				v, cells = array(v), cells+1
			case api.VTuple:
				v, cells = tuple(num(1), v), cells+2
			case api.VProg:
				v, cells = fn(1, v), cells+1
			}
			path = append(path, kind-api.VArray) // the last part of an array of one, of a tuple of two
		}
		if !value.Valid(v) || value.Size(v, greatest) != cells || value.Size(v, cells-1) != cells || value.Size(v, cells-2) != cells-1 || !slices.Equal(value.Chans(v), []int{7}) {
			t.Errorf("kind %d: Valid, Size or Chans", kind)
		}
		if p, ok := value.Part(v, nil); !ok || !value.Same(p, v) || !value.Same(v, p) {
			t.Errorf("kind %d: Part without a path, or Same", kind)
		}
		p, ok := value.Part(v, path)
		w, also := value.With(v, path, channel(8))
		if kind == api.VProg {
			if ok || also {
				t.Error("a path into a prog")
			}
			continue
		}
		if !ok || !value.Same(p, channel(7)) || !also || !slices.Equal(value.Chans(w), []int{8}) || value.Same(v, w) {
			t.Errorf("kind %d: Part or With at the end of a way", kind)
		}
		if _, ok := value.Part(v, append(path, 0)); ok {
			t.Errorf("kind %d: Part below a channel", kind)
		}
	}
}

// Rows that have each other as parts, very far down.
func TestDeepTables(t *testing.T) {
	for _, deep := range []int{1 << 16, 1 << 20} {
		rows := make([]api.Type, 0, deep)
		for i := range deep - 1 {
			rows = append(rows, row(api.KTuple, deep-1, i+1))
		}
		rows = append(rows, row(api.KInt))
		cells := 2*deep - 1
		if _, ok := value.Zero(rows, 0, cells-1); ok {
			t.Errorf("%d deep: at most %d cells", deep, cells-1)
		}
		if deep == 1<<16 {
			if v, ok := value.Zero(rows, 0, cells); !ok || value.Size(v, greatest) != cells || !value.Valid(v) {
				t.Errorf("%d deep: %v", deep, ok)
			}
		}
		rows[deep-1] = row(api.KTuple, 0, 0)
		if _, ok := value.Zero(rows, 0, greatest); ok {
			t.Errorf("%d deep: a row that comes back to itself", deep)
		}
	}
}
