package value_test

import (
	"math/rand/v2"
	"slices"
	"testing"

	"squint/api"
	"squint/value"
)

// maker makes values, right ones and odd ones.
type maker struct {
	*rand.Rand
	odd int // how often, of 100 times, a value is of any kind with any number
}

func (m maker) num() int {
	if m.IntN(6) == 0 {
		return []int{least, least + 1, -2, -1, greatest - 1, greatest}[m.IntN(6)]
	}
	return m.IntN(4)
}

func (m maker) list(from, deep int) []api.Value {
	var out []api.Value
	for range from + m.IntN(3) {
		out = append(out, m.value(deep-1))
	}
	return out
}

func (m maker) value(deep int) api.Value {
	if m.IntN(100) < m.odd {
		v := odd(m.IntN(9)-1, m.num())
		if deep > 0 {
			v.List = m.list(0, deep)
		}
		return v
	}
	if deep <= 0 {
		return []api.Value{num(m.num()), no(), yes(), channel(m.IntN(5)), array(), fn(0), fn(1 + m.IntN(3))}[m.IntN(7)]
	}
	switch m.IntN(6) {
	case 0, 1:
		return array(m.list(0, deep)...)
	case 2, 3:
		return tuple(m.list(2, deep)...)
	case 4:
		return fn(1+m.IntN(3), m.list(0, deep)...)
	}
	return m.value(0)
}

func eachValue(seed uint64, times int, do func(m maker, v api.Value)) {
	r := rand.New(rand.NewPCG(7, seed))
	for range times {
		m := maker{r, []int{0, 0, 2, 5, 30}[r.IntN(5)]}
		do(m, m.value(r.IntN(6)))
	}
}

// smallValues are all of some kinds and numbers, with lists of at most two that have none.
func smallValues(kinds, nums []int) []api.Value {
	var heads []api.Value
	for _, k := range kinds {
		for _, n := range nums {
			heads = append(heads, odd(k, n))
		}
	}
	lists := [][]api.Value{nil}
	for _, a := range heads {
		lists = append(lists, []api.Value{a})
		for _, b := range heads {
			lists = append(lists, []api.Value{a, b})
		}
	}
	var out []api.Value
	for _, head := range heads {
		for _, list := range lists {
			out = append(out, odd(head.Kind, head.Num, list...))
		}
	}
	return out
}

// plainValid reads P7.1 a second time.
func plainValid(v api.Value) bool {
	for _, one := range v.List {
		if !plainValid(one) {
			return false
		}
	}
	empty := len(v.List) == 0
	return v.Kind == api.VInt && empty ||
		v.Kind == api.VBool && empty && v.Num >= 0 && v.Num < 2 ||
		v.Kind == api.VArray && v.Num == 0 ||
		v.Kind == api.VTuple && v.Num == 0 && len(v.List) > 1 ||
		v.Kind == api.VChan && empty && v.Num > -1 ||
		v.Kind == api.VProg && (v.Num > 0 || empty && v.Num == 0)
}

// plainSize is P7.2 without the most.
func plainSize(v api.Value) int {
	cells := 1
	for _, one := range v.List {
		cells += plainSize(one)
	}
	return cells
}

// plainChans reads P7.4 a second time.
func plainChans(v api.Value, into map[int]bool) {
	if v.Kind == api.VChan && v.Num > 0 {
		into[v.Num] = true
	}
	for _, one := range v.List {
		plainChans(one, into)
	}
}

// plainSame reads P7.5 a second time.
func plainSame(a, b api.Value) bool {
	return a.Kind == b.Kind && a.Num == b.Num && slices.EqualFunc(a.List, b.List, plainSame)
}

// plainPart reads P7.6 a second time.
func plainPart(v api.Value, path []int) (api.Value, bool) {
	if len(path) == 0 {
		return v, true
	}
	if v.Kind != api.VArray && v.Kind != api.VTuple {
		return api.Value{}, false
	}
	for i, one := range v.List {
		if i == path[0] {
			return plainPart(one, path[1:])
		}
	}
	return api.Value{}, false
}

// plainWith likewise, of a path at which there is something.
func plainWith(v api.Value, path []int, part api.Value) api.Value {
	if len(path) == 0 {
		return part
	}
	out := api.Value{Kind: v.Kind, Num: v.Num}
	for i, one := range v.List {
		if i == path[0] {
			one = plainWith(one, path[1:], part)
		}
		out.List = append(out.List, one)
	}
	return out
}

// wantAlone holds all that is asked of a value alone against the second readings.
func wantAlone(t *testing.T, v api.Value) {
	t.Helper()
	if value.Valid(v) != plainValid(v) {
		t.Fatalf("Valid(%v)", v)
	}
	size := plainSize(v)
	for _, most := range []int{least, -1, 0, 1, size / 2, size - 1, size, size + 1, greatest} {
		want := min(size, max(most, -1)+1)
		if most == greatest {
			want = size
		}
		if n := value.Size(v, most); n != want {
			t.Fatalf("Size(%v, %d): %d, not %d", v, most, n, want)
		}
	}
	set, want := map[int]bool{}, []int{}
	plainChans(v, set)
	for c := range set {
		want = append(want, c)
	}
	slices.Sort(want)
	if l := value.Chans(v); !slices.Equal(l, want) {
		t.Fatalf("Chans(%v): %v, not %v", v, l, want)
	}
}

// P7.1, P7.2, P7.4
func TestSmallValues(t *testing.T) {
	for _, v := range smallValues([]int{-1, 0, 1, 2, 3, 4, 5, 6, 7}, []int{-1, 0, 1, 2}) {
		wantAlone(t, v)
	}
}

// P7.1, P7.2, P7.4
func TestMadeValues(t *testing.T) {
	right, wrong, held := 0, 0, 0
	eachValue(3, 50000, func(_ maker, v api.Value) {
		wantAlone(t, v)
		if len(v.List) == 0 {
			return
		}
		if value.Valid(v) {
			right++
		} else {
			wrong++
		}
		if len(value.Chans(v)) > 1 {
			held++
		}
	})
	if right < 3000 || wrong < 3000 || held < 3000 {
		t.Errorf("only %d right ones, %d wrong ones, %d with channels", right, wrong, held)
	}
}

// P7.5
func TestSmallPairs(t *testing.T) {
	all := smallValues([]int{1, 3, 9}, []int{0, 1})
	for _, a := range all {
		for _, b := range all {
			if value.Same(a, b) != plainSame(a, b) {
				t.Fatalf("Same(%v, %v)", a, b)
			}
		}
	}
}

// changed is a value of which one thing is another one, somewhere; perhaps none.
func (m maker) changed(v api.Value) api.Value {
	out := v
	out.List = slices.Clone(v.List)
	if len(out.List) > 0 && m.IntN(4) > 0 {
		k := m.IntN(len(out.List))
		out.List[k] = m.changed(out.List[k])
		return out
	}
	switch m.IntN(5) {
	case 0:
		out.Kind += 1 - 2*m.IntN(2)
	case 1:
		out.Num += 1 - 2*m.IntN(2)
	case 2:
		out.List = append(out.List, m.value(1))
	case 3:
		out.List = out.List[:max(0, len(out.List)-1)]
	}
	return out
}

// P7.5
func TestMadePairs(t *testing.T) {
	same, apart := 0, 0
	eachValue(4, 30000, func(m maker, a api.Value) {
		b := m.changed(a)
		want := plainSame(a, b)
		if value.Same(a, b) != want || value.Same(b, a) != want || !value.Same(a, a) {
			t.Fatalf("Same(%v, %v)", a, b)
		}
		if want {
			same++
		} else {
			apart++
		}
	})
	if same < 3000 || apart < 3000 {
		t.Errorf("only %d were the same, %d not", same, apart)
	}
}

// paths are all of a value's own.
func paths(v api.Value) [][]int {
	out := [][]int{nil}
	if v.Kind != api.VArray && v.Kind != api.VTuple {
		return out
	}
	for i, one := range v.List {
		for _, rest := range paths(one) {
			out = append(out, append([]int{i}, rest...))
		}
	}
	return out
}

// somePath is one of a value's own, or one that leaves it.
func (m maker) somePath(v api.Value) []int {
	all := paths(v)
	path := slices.Clone(all[m.IntN(len(all))])
	switch m.IntN(6) {
	case 0:
		path = append(path, m.IntN(3))
	case 1:
		path = append(path, m.num())
	case 2:
		if len(path) > 0 {
			path[m.IntN(len(path))] = m.num()
		}
	}
	return path
}

// P7.6
func TestMadePaths(t *testing.T) {
	found, left := 0, 0
	eachValue(5, 40000, func(m maker, v api.Value) {
		path, part := m.somePath(v), m.value(2)
		want, ok := plainPart(v, path)
		got, has := value.Part(v, path)
		if has != ok || !plainSame(got, want) {
			t.Fatalf("Part(%v, %v): %v, %v", v, path, got, has)
		}
		with, has := value.With(v, path, part)
		if has != ok || ok && !plainSame(with, plainWith(v, path, part)) || !ok && !isNone(with) {
			t.Fatalf("With(%v, %v, %v): %v, %v", v, path, part, with, has)
		}
		if ok && len(path) > 0 {
			found++
		}
		if !ok {
			left++
		}
	})
	if found < 5000 || left < 5000 {
		t.Errorf("only %d paths to a part, %d that leave the value", found, left)
	}
}
