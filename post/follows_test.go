package post_test

import (
	"cmp"
	"math/rand/v2"
	"reflect"
	"slices"
	"testing"

	"squint/api"
	"squint/post"
)

// order is how pairs stand: by rising P, then I, then Q, then J.
func order(a, b api.Pair) int {
	return cmp.Or(cmp.Compare(a.P, b.P), cmp.Compare(a.I, b.I), cmp.Compare(a.Q, b.Q), cmp.Compare(a.J, b.J))
}

// read is what the promises say of a right list, arm against arm.
func read(l []api.Waiter) told {
	out := told{list: l}
	for _, q := range l {
		for j, to := range q.Arms {
			if to.Chan == 1 && !to.Send {
				out.ins = append(out.ins, pair(-1, 0, q.Id, j, 1))
			}
			if to.Chan == 2 && to.Send {
				out.outs = append(out.outs, pair(q.Id, j, -1, 0, 2))
			}
			for _, p := range l {
				for i, from := range p.Arms {
					if p.Id != q.Id && from.Send && !to.Send && from.Chan == to.Chan && to.Chan > 0 {
						out.pairs = append(out.pairs, pair(p.Id, i, q.Id, j, to.Chan))
					}
				}
			}
		}
	}
	slices.SortFunc(out.pairs, order)
	return out
}

// eachList hands out all lists of processes with at most so many arms in all, on the channels 0 to 3.
func eachList(arms int, do func([]api.Waiter)) {
	var grow func(l []api.Waiter, left int)
	grow = func(l []api.Waiter, left int) {
		do(l)
		if left == 0 {
			return
		}
		for channel := range 4 {
			for _, arm := range []api.Arm{s(channel), r(channel)} {
				if n := len(l); n > 0 {
					more := slices.Clone(l)
					more[n-1].Arms = append(slices.Clone(l[n-1].Arms), arm)
					grow(more, left-1)
				}
				grow(append(slices.Clone(l), w(len(l)*3, arm)), left-1)
			}
		}
	}
	grow(nil, arms)
}

// P13.1 to P13.3: all small lists.
func TestSmallLists(t *testing.T) {
	seen := 0
	eachList(4, func(l []api.Waiter) {
		seen++
		read(l).test(t)
	})
	if seen != 1+8+2*64+4*512+8*4096 {
		t.Errorf("%d lists", seen)
	}
}

// maker makes up lists.
type maker struct{ *rand.Rand }

func newMaker(seed uint64) maker { return maker{rand.New(rand.NewPCG(seed, 13))} }

func (m maker) channel() int {
	switch m.IntN(12) {
	case 0:
		return []int{0, -1, -2, least, greatest, greatest - 1}[m.IntN(6)]
	case 1:
		return int(m.Uint64())
	}
	return m.IntN(6)
}

func (m maker) value() api.Value {
	v := api.Value{Kind: m.IntN(8), Num: m.IntN(3) - 1}
	for range m.IntN(2) {
		v.List = append(v.List, m.value())
	}
	return v
}

// waiter has room behind its arms, with arms in it that are not its own.
func (m maker) waiter(id int) api.Waiter {
	arms := make([]api.Arm, m.IntN(6), 8)
	for k := range arms {
		arms[k] = api.Arm{Chan: m.channel(), Send: m.IntN(2) == 0, Value: m.value()}
	}
	for k := len(arms); k < cap(arms); k++ {
		arms[:cap(arms)][k] = api.Arm{Chan: 1 + m.IntN(4), Send: k%2 == 0}
	}
	return w(id, arms...)
}

// right is a right list, with room behind its end, likewise.
func (m maker) right() []api.Waiter {
	id := m.IntN(3) - 1
	if m.IntN(10) == 0 {
		id = greatest - 40
	}
	var out []api.Waiter
	for range m.IntN(7) + 1 {
		id += 1 + m.IntN(3)
		out = append(out, m.waiter(id))
	}
	return out[: len(out)-1 : len(out)]
}

// P13.1 to P13.3: made-up lists.
func TestMadeUpLists(t *testing.T) {
	m := newMaker(1)
	for range 20000 {
		read(m.right()).test(t)
	}
}

// P13.1 to P13.3: made-up lists with made-up Ids, of which most are not right.
func TestMadeUpIds(t *testing.T) {
	m := newMaker(2)
	for range 20000 {
		l, rightIds, ahead := m.right(), true, -1
		for k := range l {
			if m.IntN(3) == 0 {
				l[k].Id = m.IntN(8) - 1
			}
			rightIds = rightIds && l[k].Id > ahead
			ahead = max(ahead, l[k].Id)
		}
		if rightIds {
			read(l).test(t)
		} else {
			told{list: l}.test(t)
		}
	}
}

// P13.4: no process meets itself, and nobody on a channel that is not above 0.
func TestNotItselfNotNil(t *testing.T) {
	m := newMaker(3)
	for range 5000 {
		l := m.right()
		for _, p := range post.Pairs(l) {
			if p.P == p.Q || p.Chan <= 0 || p.P < 0 || p.Q < 0 {
				t.Fatalf("Pairs(%v): %v", l, p)
			}
		}
	}
}

// without are the pairs that a process is not in.
func without(l []api.Pair, id int) []api.Pair {
	return slices.DeleteFunc(slices.Clone(l), func(p api.Pair) bool { return p.P == id || p.Q == id })
}

// P13.4: a process more takes no pair away, and adds only such as it is in; one less takes away just those.
func TestOneMore(t *testing.T) {
	m := newMaker(4)
	for range 10000 {
		more := m.right()
		for k, one := range more {
			less := slices.Delete(slices.Clone(more), k, k+1)
			fewer := answers(less)
			for call, all := range answers(more) {
				if rest := without(all, one.Id); !slices.Equal(rest, fewer[call]) {
					t.Fatalf("%v without %d, call %d: %v, not %v", more, one.Id, call, rest, fewer[call])
				}
			}
		}
	}
}

// turned is a list with all its arms turned round.
func turned(l []api.Waiter) []api.Waiter {
	out := slices.Clone(l)
	for k, one := range out {
		out[k].Arms = slices.Clone(one.Arms)
		for at := range out[k].Arms {
			out[k].Arms[at].Send = !out[k].Arms[at].Send
		}
	}
	return out
}

// P13.4: if all arms turn round, P, I and Q, J are changed about.
func TestTurnedRound(t *testing.T) {
	m := newMaker(5)
	some := 0
	for range 10000 {
		l := m.right()
		want := post.Pairs(l)
		for k, p := range want {
			want[k] = pair(p.Q, p.J, p.P, p.I, p.Chan)
		}
		slices.SortFunc(want, order)
		if got := post.Pairs(turned(l)); !slices.Equal(got, want) {
			t.Fatalf("Pairs(%v), turned round: %v, not %v", l, got, want)
		}
		some += len(want)
	}
	if some < 10000 {
		t.Errorf("%d pairs in all", some)
	}
}

// whole is a copy of a list, with what stands in the room behind its ends.
func whole(l []api.Waiter) []api.Waiter {
	out := slices.Clone(l[:cap(l)])
	for k, one := range out {
		out[k].Arms = slices.Clone(one.Arms[:cap(one.Arms)])
		for at, arm := range out[k].Arms {
			out[k].Arms[at].Value = wholeValue(arm.Value)
		}
	}
	return out
}

func wholeValue(v api.Value) api.Value {
	v.List = slices.Clone(v.List[:cap(v.List)])
	for k, one := range v.List {
		v.List[k] = wholeValue(one)
	}
	return v
}

// R4: what is handed in stays as it is, and the room behind it.
func TestHandedIn(t *testing.T) {
	m := newMaker(6)
	for range 3000 {
		l := m.right()
		was := whole(l)
		post.Pairs(l)
		post.Ins(l)
		post.Outs(l)
		if !reflect.DeepEqual(was, whole(l)) {
			t.Fatalf("%v has become %v", was, whole(l))
		}
	}
}

// spoil writes over a list of pairs, and over the room behind it.
func spoil(l []api.Pair) {
	for k := range l[:cap(l)] {
		l[:cap(l)][k] = pair(4711, 4711, 4711, 4711, 4711)
	}
}

// R4, R5: what was answered is the caller's own: no other answer, earlier or later, shows what is written there, nor does it show what becomes of the list.
func TestAnswered(t *testing.T) {
	m := newMaker(7)
	for range 3000 {
		l, other := m.right(), m.right()
		want := read(l)
		early := answers(l)
		for range 2 {
			for _, list := range append(answers(l), answers(other)...) {
				spoil(list)
			}
		}
		want.test(t)
		for k := range l {
			l[k].Id = -5
			for at := range l[k].Arms {
				l[k].Arms[at] = s(4711)
			}
		}
		for k, list := range [][]api.Pair{want.pairs, want.ins, want.outs} {
			if !slices.Equal(early[k], list) {
				t.Fatalf("%v has become %v", list, early[k])
			}
		}
	}
}

// answers are those of the three calls.
func answers(l []api.Waiter) [][]api.Pair {
	return [][]api.Pair{post.Pairs(l), post.Ins(l), post.Outs(l)}
}

// many is a list of so many arms that are alike.
func many(n int, arm api.Arm) []api.Arm { return slices.Repeat([]api.Arm{arm}, n) }

// A process with very many arms that would meet each other, and very many processes, end soon.
func TestMany(t *testing.T) {
	const n = 200000
	both := slices.Concat(many(n, s(5)), many(n, r(5)))
	if got := post.Pairs(list(w(0, both...))); len(got) > 0 {
		t.Errorf("one process meets itself: %d pairs", len(got))
	}
	var want []api.Pair
	for k := range n {
		want = append(want, pair(0, k, 1, 0, 5))
	}
	if got := post.Pairs(list(w(0, both...), w(1, r(5)))); !slices.Equal(got, want) {
		t.Errorf("two processes: %d pairs", len(got))
	}
	var apart []api.Waiter
	want = nil
	for k := range n {
		apart = append(apart, w(2*k, s(3+k)), w(2*k+1, r(3+k)))
		want = append(want, pair(2*k, 0, 2*k+1, 0, 3+k))
	}
	if got := post.Pairs(apart); !slices.Equal(got, want) {
		t.Errorf("many processes: %d pairs", len(got))
	}
}
