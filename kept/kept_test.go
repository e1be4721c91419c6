package kept_test

import (
	"math"
	"math/rand/v2"
	"runtime/debug"
	"slices"
	"testing"
	"unsafe"

	"squint/api"
	"squint/kept"
	"squint/value"
)

func number(n int) api.Value  { return api.Value{Kind: api.VInt, Num: n} }
func channel(n int) api.Value { return api.Value{Kind: api.VChan, Num: n} }
func array(list ...api.Value) api.Value {
	return api.Value{Kind: api.VArray, List: list}
}

// two is a value as it is kept, and laid out.
type two struct {
	own   kept.Value
	plain api.Value
}

const most = 1500 // cells of values that are laid out

func (v two) hold(t *testing.T) {
	t.Helper()
	if got := v.own.Tell(); !value.Same(got, v.plain) {
		t.Fatalf("told: %v, not %v", got, v.plain)
	}
	if got, want := v.own.Cells(), value.Size(v.plain, math.MaxInt-1); got != want {
		t.Fatalf("%v: %d cells, not %d", v.plain, got, want)
	}
	if got, want := kept.Channels([]kept.Value{v.own}), value.Chans(v.plain); !slices.Equal(got, want) {
		t.Fatalf("%v: channels %v, not %v", v.plain, got, want)
	}
	if v.own.Many() != len(v.plain.List) {
		t.Fatalf("%v: many %d", v.plain, v.own.Many())
	}
	for k, one := range v.plain.List {
		if at := v.own.At(k); at.Kind != one.Kind || at.Num != one.Num || at.Many() != len(one.List) {
			t.Fatalf("%v: at %d: %v", v.plain, k, at)
		}
	}
}

// pool is values, each of which may stand in others.
type pool struct {
	*testing.T
	*rand.Rand
	all []two
}

func (p *pool) some() two { return p.all[p.IntN(len(p.all))] }

// lay lays a value in the pool, held against what it is laid out, if it is not too large to go on with.
func (p *pool) lay(v two) {
	p.Helper()
	v.hold(p.T)
	if v.own.Cells() > most {
		return
	}
	if len(p.all) > 30 {
		p.all[p.IntN(len(p.all))] = v
		return
	}
	p.all = append(p.all, v)
}

func (p *pool) made() {
	kind := []int{api.VArray, api.VTuple, api.VProg}[p.IntN(3)]
	many := p.IntN(4)
	if p.IntN(8) == 0 {
		many = p.IntN(100)
	}
	var own []kept.Value
	plain := api.Value{Kind: kind, Num: p.IntN(3)}
	for range many {
		one := p.some()
		own = append(own, one.own)
		plain.List = append(plain.List, one.plain)
	}
	cells := value.Size(plain, math.MaxInt-1)
	if _, ok := kept.Make(kind, plain.Num, own, cells-1-p.IntN(3)); ok {
		p.Fatalf("%v: made with too few cells", plain)
	}
	v, ok := kept.Make(kind, plain.Num, own, cells+p.IntN(2))
	if !ok {
		p.Fatalf("%v: not made with %d cells", plain, cells)
	}
	clear(own)
	p.lay(two{v, plain})
}

func (p *pool) filled() {
	many := []int{0, 1, 2, 31, 32, 33, 64, 65, 66, 200}[p.IntN(10)]
	one := p.some()
	if many*one.own.Cells() > most {
		return
	}
	plain := api.Value{Kind: api.VArray}
	for range many {
		plain.List = append(plain.List, one.plain)
	}
	cells := 1 + many*one.own.Cells()
	if _, ok := kept.Fill(many, one.own, cells-1); ok {
		p.Fatalf("%v: filled with too few cells", plain)
	}
	v, ok := kept.Fill(many, one.own, cells)
	if !ok {
		p.Fatalf("%v: not filled with %d cells", plain, cells)
	}
	p.lay(two{v, plain})
}

// path is a way into a value, by places that are there, or to one that is not.
func (p *pool) path(v api.Value) (path []int, indices []kept.Value, way []int, why int) {
	for {
		k := p.IntN(len(v.List) + 1)
		if p.IntN(12) == 0 {
			k = []int{-1, -2, len(v.List) + 5, math.MaxInt, math.MinInt}[p.IntN(5)]
		}
		index := v.Kind == api.VArray
		if p.IntN(12) == 0 {
			index = !index
		}
		there := k >= 0 && k < len(v.List)
		switch {
		case index && p.IntN(20) == 0:
			path, indices, why = append(path, -1), append(indices, kept.Channel(k)), api.TrapWrong
		case index:
			path, indices = append(path, -1), append(indices, kept.Int(k))
			if v.Kind != api.VArray {
				why = api.TrapWrong
			} else if !there {
				why = api.TrapIndex
			}
		default:
			path = append(path, max(k, 0))
			there = max(k, 0) < len(v.List)
			k = max(k, 0)
			if v.Kind != api.VTuple || !there {
				why = api.TrapWrong
			}
		}
		if why != 0 {
			// what stands behind is not come to
			return append(path, -1, 0), append(indices, kept.Int(0)), nil, why
		}
		way = append(way, k)
		v = v.List[k]
		if len(v.List) == 0 || p.IntN(3) == 0 {
			return path, indices, way, 0
		}
	}
}

func (p *pool) set() {
	of, one := p.some(), p.some()
	path, indices, way, why := p.path(of.plain)
	if why != 0 {
		if v, trap, ok := of.own.Set(path, indices, one.own, math.MaxInt); trap != why || ok || v != (kept.Value{}) {
			p.Fatalf("%v at %v: %d %v, not %d", of.plain, path, trap, ok, why)
		}
		return
	}
	plain, _ := value.With(of.plain, way, one.plain)
	cells := value.Size(plain, math.MaxInt-1)
	if _, trap, ok := of.own.Set(path, indices, one.own, cells-1-p.IntN(4)); trap != 0 || ok {
		p.Fatalf("%v at %v: set with too few cells", of.plain, path)
	}
	v, trap, ok := of.own.Set(path, indices, one.own, cells)
	if trap != 0 || !ok {
		p.Fatalf("%v at %v: not set with %d cells", of.plain, path, cells)
	}
	p.lay(two{v, plain})
	of.hold(p.T)
}

// TestMade: values that are made of one another, filled and set, are what they are laid out, and stay so.
func TestMade(t *testing.T) {
	for seed := range uint64(60) {
		p := &pool{t, rand.New(rand.NewPCG(12, seed)), nil}
		for k := range 4 {
			p.all = append(p.all, two{kept.Int(k), number(k)}, two{kept.Channel(k - 1), channel(k - 1)}, two{kept.Bool(k % 2), api.Value{Kind: api.VBool, Num: k % 2}})
		}
		for range 400 {
			switch p.IntN(6) {
			case 0, 1:
				p.made()
			case 2:
				p.filled()
			case 3:
				one := p.some()
				p.lay(two{kept.Keep(one.plain), one.plain})
			default:
				p.set()
			}
		}
		for _, one := range p.all {
			one.hold(t)
		}
	}
}

// TestGreat: a great array is set at places near and far, again and again; so are arrays in one another.
func TestGreat(t *testing.T) {
	r := rand.New(rand.NewPCG(12, 1000))
	for _, many := range []int{1 << 60, 1<<60 - 1, 1 << 31, 1<<62 + 12345, 100, 33, 32, 1} {
		v, ok := kept.Fill(many, kept.Int(7), math.MaxInt)
		if !ok || v.Many() != many || v.Cells() != many+1 {
			t.Fatalf("%d: %v, %d", many, ok, v.Many())
		}
		set := map[int]int{}
		places := []int{0, many - 1, many / 2, many/2 - 1, min(31, many-1), min(32, many-1)}
		for n := range 300 {
			k := places[r.IntN(len(places))]
			if r.IntN(2) == 0 {
				k = r.IntN(many)
			}
			if k < 0 {
				continue
			}
			old := v
			v, _, ok = v.Set([]int{-1}, []kept.Value{kept.Int(k)}, kept.Channel(n+1), math.MaxInt)
			if !ok || v.Many() != many || v.Cells() != many+1 || old.At(k) == v.At(k) {
				t.Fatalf("%d: set at %d: %v", many, k, ok)
			}
			set[k] = n + 1
		}
		var want []int
		for k, n := range set {
			want = append(want, n)
			if v.At(k) != kept.Channel(n) {
				t.Errorf("%d: at %d: %v", many, k, v.At(k))
			}
			for _, near := range []int{k - 1, k + 1} {
				if _, ok := set[near]; !ok && near >= 0 && near < many && v.At(near) != kept.Int(7) {
					t.Errorf("%d: near %d: %v", many, k, v.At(near))
				}
			}
		}
		slices.Sort(want)
		if got := kept.Channels([]kept.Value{v}); !slices.Equal(got, want) {
			t.Errorf("%d: channels %v, not %v", many, got, want)
		}
	}
}

func TestGreatInOneAnother(t *testing.T) {
	row, _ := kept.Fill(1<<30, kept.Int(1), math.MaxInt)
	v, ok := kept.Fill(1<<30, row, math.MaxInt)
	cells := 1 + 1<<30*(1<<30+1)
	if !ok || v.Cells() != cells {
		t.Fatal(ok, v.Cells())
	}
	at := []kept.Value{kept.Int(1<<30 - 1), kept.Int(12345)}
	pair, _ := kept.Make(api.VTuple, 0, []kept.Value{kept.Int(5), kept.Int(6)}, 3)
	if _, why, ok := v.Set([]int{-1, -1}, at, pair, cells+1); why != 0 || ok {
		t.Error("set with a cell too few")
	}
	w, why, ok := v.Set([]int{-1, -1}, at, pair, cells+2)
	if why != 0 || !ok || w.Cells() != cells+2 || w.At(1<<30-1).At(12345) != pair || w.At(1<<30-2).At(12345) != kept.Int(1) {
		t.Error(why, ok, w.Cells())
	}
	if _, ok := kept.Fill(1<<33, row, math.MaxInt); ok {
		t.Error("filled with more cells than a number can tell")
	}
	if _, ok := kept.Make(api.VTuple, 0, slices.Repeat([]kept.Value{v}, 9), math.MaxInt); ok {
		t.Error("made with more cells than a number can tell")
	}
}

// TestRoom: cells that are left at the edges.
func TestRoom(t *testing.T) {
	for _, left := range []int{0, -1, math.MinInt} {
		if _, ok := kept.Make(api.VArray, 0, nil, left); ok {
			t.Errorf("made with %d", left)
		}
		if _, ok := kept.Fill(0, kept.Int(1), left); ok {
			t.Errorf("filled with %d", left)
		}
		if v, ok := kept.Int(3).Within(left); ok || v != (kept.Value{}) {
			t.Errorf("within %d", left)
		}
	}
	if v, ok := kept.Int(3).Within(1); !ok || v != kept.Int(3) {
		t.Error("within 1")
	}
	if _, ok := (kept.Value{}).Within(9); ok {
		t.Error("no value is within anything")
	}
	if _, ok := kept.Fill(math.MaxInt-1, kept.Int(1), math.MaxInt); !ok {
		t.Error("filled with all the cells there are")
	}
	if _, ok := kept.Fill(math.MaxInt, kept.Int(1), math.MaxInt); ok {
		t.Error("filled with one more")
	}
}

// TestDeep: values in one another, deeper than calls can be.
func TestDeep(t *testing.T) {
	const deep = 200000
	defer debug.SetMaxStack(debug.SetMaxStack(1 << 20))
	v, plain := kept.Channel(7), channel(7)
	for range deep {
		v, _ = kept.Make(api.VArray, 0, []kept.Value{v}, math.MaxInt)
		plain = array(plain)
	}
	for _, v := range []kept.Value{v, kept.Keep(plain)} {
		if v.Cells() != deep+1 || !slices.Equal(kept.Channels([]kept.Value{v}), []int{7}) {
			t.Fatal(v.Cells())
		}
		told, many := v.Tell(), 0
		for ; len(told.List) == 1; told = told.List[0] {
			many++
		}
		if many != deep || told.Num != 7 {
			t.Fatalf("told: %d deep, %v", many, told)
		}
		indices := slices.Repeat([]kept.Value{kept.Int(0)}, deep)
		w, why, ok := v.Set(slices.Repeat([]int{-1}, deep), indices, kept.Channel(8), deep+1)
		if why != 0 || !ok || !slices.Equal(kept.Channels([]kept.Value{w}), []int{8}) || !slices.Equal(kept.Channels([]kept.Value{v}), []int{7}) {
			t.Fatal(why, ok)
		}
	}
}

// TestShared: what stands in a value more often than can be laid out is gone through once.
func TestShared(t *testing.T) {
	v := kept.Channel(4)
	for range 61 {
		v, _ = kept.Make(api.VTuple, 0, []kept.Value{v, v}, math.MaxInt)
	}
	if v.Cells() != 1<<62-1 || !slices.Equal(kept.Channels([]kept.Value{v, v, kept.Channel(9)}), []int{4, 9}) {
		t.Error(v.Cells())
	}
	if got := kept.Channels(nil); got != nil {
		t.Error(got)
	}
	if got := kept.TellAll(nil); got != nil {
		t.Error(got)
	}
}

// spans are where lists lie in memory, from the lowest on.
func spans(list []api.Value) [][2]uintptr {
	if cap(list) == 0 {
		return nil
	}
	from := uintptr(unsafe.Pointer(unsafe.SliceData(list)))
	out := [][2]uintptr{{from, from + uintptr(cap(list))*unsafe.Sizeof(list[:1][0])}}
	for _, one := range list {
		out = append(out, spans(one.List)...)
	}
	return out
}

// TestMemory: what is handed in is not kept, and what is told is new memory.
func TestMemory(t *testing.T) {
	inner := []api.Value{number(1), channel(2)}
	plain := array(array(inner...), array(inner...), number(3))
	v := kept.KeepAll([]api.Value{plain, plain})
	inner[1], plain.List[2] = channel(9), channel(9)
	want := array(array(number(1), channel(2)), array(number(1), channel(2)), number(3))
	a, b := kept.TellAll(v), kept.TellAll(v)
	all := append(spans(a), spans(b)...)
	slices.SortFunc(all, func(a, b [2]uintptr) int { return int(a[0]) - int(b[0]) })
	for k := 1; k < len(all); k++ {
		if all[k][0] < all[k-1][1] {
			t.Error("lists that share memory")
		}
	}
	a[0].List[0].List[0], a[0].List[2] = number(99), number(99)
	if len(b) != 2 || !value.Same(b[0], want) || !value.Same(b[1], want) || !value.Same(a[1], want) || !value.Same(v[0].Tell(), want) {
		t.Error(a, b)
	}
}

// madeTypes is a table of types that go round in any way.
func madeTypes(r *rand.Rand) []api.Type {
	t := make([]api.Type, 1+r.IntN(8))
	for k := range t {
		t[k].Kind = []int{api.KInt, api.KBool, api.KChan, api.KArray, api.KProg, api.KTuple, api.KTuple, api.KTuple}[r.IntN(8)]
		many := 0
		switch t[k].Kind {
		case api.KChan, api.KArray:
			many = 1
		case api.KTuple:
			many = 2 + r.IntN(2)
		case api.KProg:
			many = r.IntN(3)
		}
		for range many {
			kid := r.IntN(len(t))
			if k > 0 && r.IntN(4) > 0 {
				kid = r.IntN(k)
			}
			t[k].Kids = append(t[k].Kids, kid)
		}
	}
	return t
}

// TestZeros holds default values against value's.
func TestZeros(t *testing.T) {
	r := rand.New(rand.NewPCG(12, 2000))
	have, none := 0, 0
	for range 20000 {
		types := madeTypes(r)
		zeros := kept.Zeros(types)
		if len(zeros) != len(types) {
			t.Fatal(types)
		}
		for row, v := range zeros {
			want, ok := value.Zero(types, row, math.MaxInt)
			if !ok {
				none++
				if v != (kept.Value{}) {
					t.Fatalf("%v: row %d: %v", types, row, v.Tell())
				}
				continue
			}
			have++
			two{v, want}.hold(t)
		}
	}
	if have < 10000 || none < 10000 {
		t.Errorf("%d have a value, %d have none", have, none)
	}
}

// TestZerosGreat: rows that double each other, up to what a number can tell.
func TestZerosGreat(t *testing.T) {
	types := []api.Type{{Kind: api.KInt}}
	for k := range 70 {
		types = append(types, api.Type{Kind: api.KTuple, Kids: []int{k, k}})
	}
	full := append(slices.Clone(types), api.Type{Kind: api.KTuple, Kids: []int{61, 60, 60, 0}}, api.Type{Kind: api.KTuple, Kids: []int{61, 61, 0}})
	if got := kept.Zeros(full)[71:]; got[0].Cells() != math.MaxInt || got[1] != (kept.Value{}) {
		t.Errorf("%d and %d cells", got[0].Cells(), got[1].Cells())
	}
	zeros := kept.Zeros(types)
	for k, v := range zeros {
		if k <= 61 && (v.Kind == api.VNone || v.Cells() != 1<<(k+1)-1) || k == 62 && v.Cells() != math.MaxInt || k > 62 && v != (kept.Value{}) {
			t.Errorf("row %d: %d cells", k, v.Cells())
		}
	}
	deep := []api.Type{{Kind: api.KChan, Kids: []int{0}}}
	for k := range 1000000 {
		deep = append(deep, api.Type{Kind: api.KTuple, Kids: []int{0, k}})
	}
	slices.Reverse(deep)
	last := len(deep) - 1
	for k := range deep {
		for at, kid := range deep[k].Kids {
			deep[k].Kids[at] = last - kid
		}
	}
	if v := kept.Zeros(deep)[0]; v.Cells() != 2*last+1 {
		t.Errorf("deep: %d cells", v.Cells())
	}
}
