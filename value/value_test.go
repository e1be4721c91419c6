package value_test

import (
	"math"
	"reflect"
	"slices"
	"testing"

	"squint/api"
	"squint/value"
)

func num(n int) api.Value { return api.Value{Kind: api.VInt, Num: n} }

func yes() api.Value { return api.Value{Kind: api.VBool, Num: 1} }

func no() api.Value { return api.Value{Kind: api.VBool} }

func channel(n int) api.Value { return api.Value{Kind: api.VChan, Num: n} }

func array(l ...api.Value) api.Value { return api.Value{Kind: api.VArray, List: l} }

func tuple(l ...api.Value) api.Value { return api.Value{Kind: api.VTuple, List: l} }

func fn(n int, l ...api.Value) api.Value { return api.Value{Kind: api.VProg, Num: n, List: l} }

func odd(kind, n int, l ...api.Value) api.Value { return api.Value{Kind: kind, Num: n, List: l} }

const (
	least    = math.MinInt
	greatest = math.MaxInt
)

// isNone tells whether an answer is no value, in all its fields.
func isNone(v api.Value) bool { return v.Kind == api.VNone && v.Num == 0 && len(v.List) == 0 }

// P7.1
func TestValid(t *testing.T) {
	for _, x := range []struct {
		v    api.Value
		want bool
	}{
		{array(num(1), yes()), true}, {tuple(num(1)), false}, {odd(api.VBool, 2), false}, {fn(0, num(1)), false},
		{num(0), true}, {num(least), true}, {num(greatest), true}, {odd(api.VInt, 1, num(1)), false}, {odd(api.VInt, 1, []api.Value{}...), true},
		{no(), true}, {yes(), true}, {odd(api.VBool, -1), false}, {odd(api.VBool, greatest), false}, {odd(api.VBool, 0, num(1)), false}, {odd(api.VBool, 1, no()), false},
		{array(), true}, {array(num(1)), true}, {array(num(1), array(), channel(0)), true}, {odd(api.VArray, 1), false}, {odd(api.VArray, -1, num(1)), false},
		{tuple(), false}, {tuple(num(1), num(2)), true}, {tuple(num(1), num(2), no()), true}, {odd(api.VTuple, 1, num(1), num(2)), false}, {odd(api.VTuple, least, num(1), num(2)), false},
		{channel(0), true}, {channel(1), true}, {channel(greatest), true}, {channel(-1), false}, {channel(least), false}, {odd(api.VChan, 1, num(1)), false}, {odd(api.VChan, 0, num(1)), false},
		{fn(0), true}, {fn(1), true}, {fn(1, num(1)), true}, {fn(greatest, num(1), fn(0)), true}, {fn(-1), false}, {fn(-1, num(1)), false}, {fn(least), false},
		{api.Value{}, false}, {odd(api.VNone, 1), false}, {odd(7, 0), false}, {odd(-1, 0), false}, {odd(least, 0), false}, {odd(greatest, 0), false},
		{array(api.Value{}), false}, {tuple(num(1), odd(7, 0)), false}, {tuple(odd(7, 0), num(1)), false}, {fn(1, api.Value{}), false}, {fn(1, num(1), tuple(no(), odd(api.VBool, 2))), false},
		{array(array(array(channel(-1)))), false}, {array(array(array(channel(1)))), true},
		{array(num(1), tuple(num(1)), num(2)), false}, {array(array(num(1), tuple(num(1))), num(2)), false},
	} {
		if value.Valid(x.v) != x.want {
			t.Errorf("Valid(%v): not %v", x.v, x.want)
		}
	}
}

// P7.2
func TestSize(t *testing.T) {
	five := array(num(1), tuple(num(2), channel(3)))
	for _, x := range []struct {
		v          api.Value
		most, want int
	}{
		{five, 9, 5}, {five, 4, 5}, {num(1), 0, 1}, {num(1), -5, 0}, {array(), 1, 1},
		{five, 5, 5}, {five, 3, 4}, {five, 2, 3}, {five, 1, 2}, {five, 0, 1}, {five, -1, 0}, {five, -2, 0}, {five, least, 0}, {five, greatest, 5}, {five, greatest - 1, 5},
		{num(7), 1, 1}, {num(7), 2, 1}, {num(7), greatest, 1}, {num(7), least, 0}, {num(7), -1, 0}, {array(), 0, 1}, {array(), -1, 0}, {array(), 5, 1},
		{fn(0), 5, 1}, {fn(2, num(1), array(num(2))), 5, 4}, {channel(0), 5, 1}, {yes(), 5, 1},
		{api.Value{}, 5, 1}, {odd(7, 3, num(1)), 5, 2}, {odd(api.VInt, 3, num(1), num(2)), 5, 3}, {odd(api.VChan, 3, odd(-1, 0, api.Value{})), 5, 3}, {odd(api.VBool, 0, num(1)), 1, 2},
		{array(array(array(array()))), 9, 4}, {array(array(array(array()))), 4, 4}, {array(array(array(array()))), 3, 4}, {array(array(array(array()))), 2, 3},
	} {
		if n := value.Size(x.v, x.most); n != x.want {
			t.Errorf("Size(%v, %d): %d, not %d", x.v, x.most, n, x.want)
		}
	}
}

// What stands in a value twice counts twice, and what is enough is enough.
func TestSizeOfDoubles(t *testing.T) {
	v, cells := num(1), 1
	for range 28 {
		v, cells = array(v, v), 2*cells+1
		if cells < 1<<20 && value.Size(v, greatest) != cells {
			t.Fatalf("Size: %d, not %d", value.Size(v, greatest), cells)
		}
	}
	for _, most := range []int{0, 1, 2, 1000, 1 << 20} {
		if n := value.Size(v, most); n != most+1 {
			t.Errorf("Size of %d cells, at most %d: %d", cells, most, n)
		}
	}
}

// P7.4
func TestChans(t *testing.T) {
	for _, x := range []struct {
		v    api.Value
		want []int
	}{
		{array(channel(3), tuple(channel(3), channel(1)), channel(0)), []int{1, 3}},
		{channel(4), []int{4}}, {channel(0), nil}, {channel(-1), nil}, {channel(least), nil}, {channel(greatest), []int{greatest}}, {channel(1), []int{1}},
		{num(4), nil}, {yes(), nil}, {array(), nil}, {fn(4), nil}, {odd(7, 4), nil}, {api.Value{}, nil}, {odd(api.VTuple, 4), nil},
		{fn(9, channel(2), fn(8, channel(1))), []int{1, 2}}, {fn(0, channel(5)), []int{5}},
		{odd(api.VChan, 7, channel(2), num(3)), []int{2, 7}}, {odd(api.VChan, 0, channel(2)), []int{2}}, {odd(api.VInt, 7, channel(2)), []int{2}}, {odd(api.VBool, 1, channel(2)), []int{2}}, {odd(77, 7, channel(2)), []int{2}}, {odd(api.VNone, 0, channel(2)), []int{2}},
		{array(channel(9), channel(8), channel(greatest), channel(7), channel(9), channel(7), channel(-7)), []int{7, 8, 9, greatest}},
		{tuple(tuple(tuple(channel(2), channel(2)), channel(1)), channel(2)), []int{1, 2}},
	} {
		if l := value.Chans(x.v); !slices.Equal(l, x.want) {
			t.Errorf("Chans(%v): %v, not %v", x.v, l, x.want)
		}
	}
}

// P7.5
func TestSame(t *testing.T) {
	for _, x := range []struct {
		a, b api.Value
		want bool
	}{
		{array(num(1)), array(num(1)), true}, {array(num(1)), tuple(num(1), num(1)), false}, {odd(api.VArray, 0, []api.Value{}...), odd(api.VArray, 0), true},
		{api.Value{Kind: api.VArray, List: []api.Value{}}, api.Value{Kind: api.VArray}, true}, {array(api.Value{Kind: api.VArray, List: []api.Value{}}), array(array()), true},
		{num(1), num(1), true}, {num(1), num(2), false}, {num(1), yes(), false}, {num(1), channel(1), false}, {num(least), num(greatest), false}, {num(least), num(least), true},
		{channel(3), channel(3), true}, {channel(3), channel(4), false}, {channel(0), no(), false}, {fn(1), fn(1), true}, {fn(1), fn(2), false}, {fn(1, num(1)), fn(1), false}, {fn(1, num(1)), fn(1, num(1)), true},
		{array(num(1), num(2)), array(num(1), num(2)), true}, {array(num(1), num(2)), array(num(2), num(1)), false}, {array(num(1), num(2)), array(num(1)), false}, {array(num(1)), array(num(1), num(2)), false}, {array(), array(num(1)), false}, {array(num(1)), array(), false},
		{tuple(num(1), num(2)), array(num(1), num(2)), false}, {array(array(num(1)), num(2)), array(array(num(2)), num(2)), false}, {array(array(num(1)), num(2)), array(array(num(1)), num(3)), false}, {array(array(num(1)), num(2)), array(array(num(1)), num(2)), true},
		{array(array(), array(num(1))), array(array(num(1)), array()), false}, {array(array(array())), array(array()), false}, {array(array()), array(array(array())), false},
		{api.Value{}, api.Value{}, true}, {odd(9, 1, num(1)), odd(9, 1, num(1)), true}, {odd(9, 1, num(1)), odd(9, 1, num(2)), false}, {odd(9, 1), odd(8, 1), false}, {odd(api.VInt, 1, num(1)), num(1), false}, {odd(api.VInt, 1, num(1)), odd(api.VInt, 1, num(1)), true},
	} {
		if value.Same(x.a, x.b) != x.want || value.Same(x.b, x.a) != x.want {
			t.Errorf("Same(%v, %v): not %v", x.a, x.b, x.want)
		}
	}
}

// P7.6
func TestPart(t *testing.T) {
	v := array(num(1), tuple(num(2), channel(3)), array(), fn(1, num(5)))
	for _, x := range []struct {
		v    api.Value
		path []int
		want api.Value // VNone: there is nothing
	}{
		{array(num(1), tuple(num(2), channel(3))), []int{1, 1}, channel(3)}, {array(num(1)), []int{1}, api.Value{}}, {array(num(1)), []int{0, 0}, api.Value{}}, {num(1), nil, num(1)},
		{v, nil, v}, {v, []int{}, v}, {v, []int{0}, num(1)}, {v, []int{1}, tuple(num(2), channel(3))}, {v, []int{1, 0}, num(2)}, {v, []int{2}, array()}, {v, []int{3}, fn(1, num(5))},
		{v, []int{4}, api.Value{}}, {v, []int{-1}, api.Value{}}, {v, []int{greatest}, api.Value{}}, {v, []int{least}, api.Value{}}, {v, []int{1, 2}, api.Value{}}, {v, []int{1, -1}, api.Value{}}, {v, []int{4, 0}, api.Value{}},
		{v, []int{2, 0}, api.Value{}}, {v, []int{2, -1}, api.Value{}}, {v, []int{3, 0}, api.Value{}}, {v, []int{1, 1, 0}, api.Value{}}, {v, []int{0, 0}, api.Value{}}, {v, []int{0, 0, 0}, api.Value{}},
		{fn(1, num(5)), []int{0}, api.Value{}}, {fn(1, num(5)), nil, fn(1, num(5))}, {channel(3), []int{0}, api.Value{}}, {yes(), []int{1}, api.Value{}}, {array(), []int{0}, api.Value{}},
		{odd(api.VInt, 1, num(5)), []int{0}, api.Value{}}, {odd(api.VBool, 1, num(5)), []int{0}, api.Value{}}, {odd(api.VChan, 1, num(5)), []int{0}, api.Value{}}, {odd(api.VNone, 0, num(5)), []int{0}, api.Value{}}, {odd(7, 0, num(5)), []int{0}, api.Value{}}, {odd(-1, 0, num(5)), []int{0}, api.Value{}},
		{odd(7, 2, num(5)), nil, odd(7, 2, num(5))}, {odd(api.VArray, 9, num(5)), []int{0}, num(5)}, {odd(api.VTuple, -9, num(5)), []int{0}, num(5)}, {array(odd(7, 0, num(1))), []int{0}, odd(7, 0, num(1))},
	} {
		p, ok := value.Part(x.v, x.path)
		if !value.Same(p, x.want) || ok != (x.want.Kind != api.VNone) || !ok && !isNone(p) {
			t.Errorf("Part(%v, %v): %v, %v, not %v", x.v, x.path, p, ok, x.want)
		}
		w, ok := value.With(x.v, x.path, num(77))
		if ok != (x.want.Kind != api.VNone) || !ok && !isNone(w) {
			t.Errorf("With(%v, %v, 77): %v, %v", x.v, x.path, w, ok)
		}
	}
	if p, ok := value.Part(api.Value{}, nil); !ok || !isNone(p) {
		t.Errorf("Part of no value: %v, %v", p, ok)
	}
	if p, ok := value.Part(array(api.Value{}), []int{0}); !ok || !isNone(p) {
		t.Errorf("Part that is no value: %v, %v", p, ok)
	}
}

// P7.6
func TestWith(t *testing.T) {
	v := array(num(1), tuple(num(2), channel(3)), num(4))
	for _, x := range []struct {
		v    api.Value
		path []int
		part api.Value
		want api.Value
	}{
		{array(num(1), tuple(num(2), channel(3))), []int{1, 0}, array(num(7)), array(num(1), tuple(array(num(7)), channel(3)))},
		{v, nil, num(9), num(9)}, {v, []int{}, v, v}, {num(1), nil, array(), array()}, {v, []int{0}, v, array(v, tuple(num(2), channel(3)), num(4))},
		{v, []int{0}, num(9), array(num(9), tuple(num(2), channel(3)), num(4))}, {v, []int{2}, yes(), array(num(1), tuple(num(2), channel(3)), yes())}, {v, []int{1}, num(9), array(num(1), num(9), num(4))},
		{v, []int{1, 1}, array(), array(num(1), tuple(num(2), array()), num(4))}, {v, []int{1, 1}, channel(3), v},
		{v, []int{0}, api.Value{}, array(api.Value{}, tuple(num(2), channel(3)), num(4))}, {v, nil, api.Value{}, api.Value{}}, {v, []int{0}, odd(7, 1, num(1)), array(odd(7, 1, num(1)), tuple(num(2), channel(3)), num(4))},
		{odd(api.VArray, 9, num(5), fn(2, num(1))), []int{0}, num(6), odd(api.VArray, 9, num(6), fn(2, num(1)))}, {odd(api.VTuple, 3, num(5)), []int{0}, num(6), odd(api.VTuple, 3, num(6))}, {array(odd(8, 2, num(1)), num(2)), []int{1}, num(3), array(odd(8, 2, num(1)), num(3))},
	} {
		if w, ok := value.With(x.v, x.path, x.part); !ok || !value.Same(w, x.want) {
			t.Errorf("With(%v, %v, %v): %v, %v, not %v", x.v, x.path, x.part, w, ok, x.want)
		}
	}
	if !reflect.DeepEqual(v, array(num(1), tuple(num(2), channel(3)), num(4))) {
		t.Errorf("v has become %v", v)
	}
}
