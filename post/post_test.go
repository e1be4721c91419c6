package post_test

import (
	"math"
	"slices"
	"testing"

	"squint/api"
	"squint/post"
)

const (
	least    = math.MinInt
	greatest = math.MaxInt
)

func s(channel int) api.Arm { return api.Arm{Chan: channel, Send: true} }

func r(channel int) api.Arm { return api.Arm{Chan: channel} }

func w(id int, arms ...api.Arm) api.Waiter { return api.Waiter{Id: id, Arms: arms} }

func list(l ...api.Waiter) []api.Waiter { return l }

func pair(p, i, q, j, channel int) api.Pair { return api.Pair{P: p, I: i, Q: q, J: j, Chan: channel} }

func pairs(l ...api.Pair) []api.Pair { return l }

// told is what the three calls answer of one list.
type told struct {
	list             []api.Waiter
	pairs, ins, outs []api.Pair
}

func (x told) test(t *testing.T) {
	t.Helper()
	if got := post.Pairs(x.list); !slices.Equal(got, x.pairs) {
		t.Errorf("Pairs(%v): %v, not %v", x.list, got, x.pairs)
	}
	if got := post.Ins(x.list); !slices.Equal(got, x.ins) {
		t.Errorf("Ins(%v): %v, not %v", x.list, got, x.ins)
	}
	if got := post.Outs(x.list); !slices.Equal(got, x.outs) {
		t.Errorf("Outs(%v): %v, not %v", x.list, got, x.outs)
	}
}

// P13.1 to P13.3: the chapter's examples.
func TestExamples(t *testing.T) {
	for _, x := range []told{
		{list(w(0, s(5)), w(1, r(5), r(5))), pairs(pair(0, 0, 1, 0, 5), pair(0, 0, 1, 1, 5)), nil, nil},
		{list(w(0, r(5), s(5))), nil, nil, nil},
		{
			list(w(2, s(5)), w(4, r(5), s(1)), w(7, r(1), s(2))),
			pairs(pair(2, 0, 4, 0, 5), pair(4, 1, 7, 0, 1)), pairs(pair(-1, 0, 7, 0, 1)), pairs(pair(7, 1, -1, 0, 2)),
		},
		{list(w(0, s(0)), w(1, r(0))), nil, nil, nil},
		{list(w(1, s(5)), w(1, r(5))), nil, nil, nil},
		{list(w(3, s(5)), w(2, r(5))), nil, nil, nil},
		{list(w(-1, s(5)), w(0, r(5))), nil, nil, nil},
	} {
		x.test(t)
	}
}

// P13.1 to P13.3: a list that is not right has none, wherever it is not, and whatever else stands in it.
func TestNoRightLists(t *testing.T) {
	arms := []api.Arm{s(5), r(5), r(1), s(1), s(2), r(2)}
	for _, ids := range [][]int{
		{-1}, {least}, {-1, 0}, {-1, 0, 1}, {-2, -1}, {least, greatest}, {0, -1}, {0, 1, -1}, {0, 1, least}, {greatest, least},
		{0, 0}, {1, 1}, {greatest, greatest}, {0, 0, 1}, {0, 1, 1}, {0, 1, 0}, {0, 1, 2, 2}, {0, 1, 2, 0}, {-1, -1},
		{1, 0}, {3, 2}, {greatest, 0}, {greatest, greatest - 1}, {0, 2, 1}, {2, 0, 1}, {1, 0, 2}, {5, 6, 7, 4}, {5, 6, 4, 7},
	} {
		var full, bare []api.Waiter
		for k, id := range ids {
			full = append(full, w(id, arms...))
			bare = append(bare, w(id, arms[k%len(arms)]))
		}
		told{list: full}.test(t)
		told{list: bare}.test(t)
	}
	// The one that is wrong has no arms itself.
	told{list: list(w(-1), w(0, s(5), r(1), s(2)), w(1, r(5)))}.test(t)
	told{list: list(w(0, s(5), r(1), s(2)), w(1, r(5)), w(1))}.test(t)
	told{list: list(w(0, s(5), r(1), s(2)), w(2, r(5)), w(1))}.test(t)
}

// P13.1 to P13.3: nobody, nobody with arms, and some without.
func TestNobody(t *testing.T) {
	for _, l := range [][]api.Waiter{nil, {}, list(w(0)), list(w(0), w(1), w(9)), list(w(0, []api.Arm{}...)), list(w(greatest))} {
		told{list: l}.test(t)
	}
	told{list(w(0), w(1, s(5)), w(2), w(3, r(5)), w(4)), pairs(pair(1, 0, 3, 0, 5)), nil, nil}.test(t)
}

// P13.1, P13.4: which two arms meet: one that sends and one that does not, on one channel, above 0, of two processes.
func TestWhoMeets(t *testing.T) {
	for _, x := range []told{
		{list(w(0, s(5)), w(1, r(5))), pairs(pair(0, 0, 1, 0, 5)), nil, nil},
		{list(w(0, r(5)), w(1, s(5))), pairs(pair(1, 0, 0, 0, 5)), nil, nil},
		{list(w(0, s(5)), w(1, s(5))), nil, nil, nil},
		{list(w(0, r(5)), w(1, r(5))), nil, nil, nil},
		{list(w(0, s(5)), w(1, r(6))), nil, nil, nil},
		{list(w(0, s(5)), w(1, r(-5))), nil, nil, nil},
		{list(w(0, s(5)), w(1, r(0))), nil, nil, nil},
		{list(w(0, s(0)), w(1, r(5))), nil, nil, nil},
		{list(w(0, s(0)), w(1, r(0))), nil, nil, nil},
		{list(w(0, r(0)), w(1, s(0))), nil, nil, nil},
		{list(w(0, s(-1)), w(1, r(-1))), nil, nil, nil},
		{list(w(0, s(-2)), w(1, r(-2))), nil, nil, nil},
		{list(w(0, s(least)), w(1, r(least))), nil, nil, nil},
		{list(w(0, s(3)), w(1, r(3))), pairs(pair(0, 0, 1, 0, 3)), nil, nil},
		{list(w(0, s(greatest)), w(1, r(greatest))), pairs(pair(0, 0, 1, 0, greatest)), nil, nil},
		{list(w(0, s(greatest)), w(1, r(greatest-1))), nil, nil, nil},
		{list(w(greatest-1, r(5)), w(greatest, s(5))), pairs(pair(greatest, 0, greatest-1, 0, 5)), nil, nil},
		{list(w(0, r(greatest)), w(greatest, s(greatest))), pairs(pair(greatest, 0, 0, 0, greatest)), nil, nil},
		// What stands in a list is told by its number, not by its place.
		{list(w(10, r(5)), w(20, r(6)), w(40, s(6))), pairs(pair(40, 0, 20, 0, 6)), nil, nil},
		// An arm's number counts those that meet nobody, too.
		{list(w(0, s(0), s(9), s(5)), w(1, r(8), r(0), r(-5), r(5))), pairs(pair(0, 2, 1, 3, 5)), nil, nil},
	} {
		x.test(t)
	}
}

// P13.1, P13.4: no process meets itself, but both its arms may meet others.
func TestItself(t *testing.T) {
	for _, x := range []told{
		{list(w(0, s(5), r(5))), nil, nil, nil},
		{list(w(0, r(5), s(5))), nil, nil, nil},
		{list(w(7, r(5), s(5), r(5), s(5))), nil, nil, nil},
		{list(w(0, s(5), r(5)), w(1, s(5), r(5))), pairs(pair(0, 0, 1, 1, 5), pair(1, 0, 0, 1, 5)), nil, nil},
		{list(w(0, s(1), r(1))), nil, pairs(pair(-1, 0, 0, 1, 1)), nil},
		{list(w(0, r(2), s(2))), nil, nil, pairs(pair(0, 1, -1, 0, 2))},
		{
			list(w(0, r(5)), w(1, r(5), s(5), r(5)), w(2, r(5))),
			pairs(pair(1, 1, 0, 0, 5), pair(1, 1, 2, 0, 5)), nil, nil,
		},
		{
			list(w(0, s(5)), w(1, r(5), s(5), r(5)), w(2, s(5))),
			pairs(pair(0, 0, 1, 0, 5), pair(0, 0, 1, 2, 5), pair(2, 0, 1, 0, 5), pair(2, 0, 1, 2, 5)), nil, nil,
		},
	} {
		x.test(t)
	}
}

// P13.1: several arms on one channel, on both sides: by rising P, then I, then Q, then J, whatever the channels are.
func TestOrder(t *testing.T) {
	told{
		list(w(1, s(5), r(5), s(5)), w(3, r(5), r(5), s(5)), w(8, r(5))),
		pairs(
			pair(1, 0, 3, 0, 5), pair(1, 0, 3, 1, 5), pair(1, 0, 8, 0, 5),
			pair(1, 2, 3, 0, 5), pair(1, 2, 3, 1, 5), pair(1, 2, 8, 0, 5),
			pair(3, 2, 1, 1, 5), pair(3, 2, 8, 0, 5),
		), nil, nil,
	}.test(t)
	told{
		list(w(0, s(9), s(4), s(9)), w(1, r(4), r(9)), w(2, r(9), r(4), s(4)), w(10, r(4), s(9))),
		pairs(
			pair(0, 0, 1, 1, 9), pair(0, 0, 2, 0, 9),
			pair(0, 1, 1, 0, 4), pair(0, 1, 2, 1, 4), pair(0, 1, 10, 0, 4),
			pair(0, 2, 1, 1, 9), pair(0, 2, 2, 0, 9),
			pair(2, 2, 1, 0, 4), pair(2, 2, 10, 0, 4),
			pair(10, 1, 1, 1, 9), pair(10, 1, 2, 0, 9),
		), nil, nil,
	}.test(t)
}

// P13.2, P13.3: the world sends on 1 alone and receives on 2 alone; on both processes meet each other, too.
func TestWorld(t *testing.T) {
	for _, x := range []told{
		{list(w(0, r(1))), nil, pairs(pair(-1, 0, 0, 0, 1)), nil},
		{list(w(0, s(1))), nil, nil, nil},
		{list(w(0, s(2))), nil, nil, pairs(pair(0, 0, -1, 0, 2))},
		{list(w(0, r(2))), nil, nil, nil},
		{list(w(0, r(3), s(3), r(0), s(0), r(-1), s(-1), r(-2), s(-2), r(greatest), s(greatest), r(least), s(least))), nil, nil, nil},
		{list(w(0, s(1)), w(1, r(1))), pairs(pair(0, 0, 1, 0, 1)), pairs(pair(-1, 0, 1, 0, 1)), nil},
		{list(w(0, s(2)), w(1, r(2))), pairs(pair(0, 0, 1, 0, 2)), nil, pairs(pair(0, 0, -1, 0, 2))},
		{list(w(greatest, s(2), r(1))), nil, pairs(pair(-1, 0, greatest, 1, 1)), pairs(pair(greatest, 0, -1, 0, 2))},
		{
			list(w(2, r(1), r(3), r(1)), w(5), w(6, s(1), r(2), r(1))),
			pairs(pair(6, 0, 2, 0, 1), pair(6, 0, 2, 2, 1)),
			pairs(pair(-1, 0, 2, 0, 1), pair(-1, 0, 2, 2, 1), pair(-1, 0, 6, 2, 1)), nil,
		},
		{
			list(w(2, s(2), s(3), s(2)), w(5), w(6, r(2), s(1), s(2))),
			pairs(pair(2, 0, 6, 0, 2), pair(2, 2, 6, 0, 2)), nil,
			pairs(pair(2, 0, -1, 0, 2), pair(2, 2, -1, 0, 2), pair(6, 2, -1, 0, 2)),
		},
	} {
		x.test(t)
	}
}

// What an arm would send is not looked at, even if it may not be, or stands at an arm that receives.
func TestWhatIsSent(t *testing.T) {
	for _, v := range []api.Value{
		{}, {Kind: api.VInt, Num: 7}, {Kind: api.VBool, Num: 2}, {Kind: api.VChan, Num: 5}, {Kind: api.VChan, Num: -1}, {Kind: 99, Num: least},
		{Kind: api.VTuple, List: []api.Value{{Kind: api.VChan, Num: 1}, {}}}, {Kind: api.VProg, List: []api.Value{{}}},
	} {
		l := list(w(2, s(5)), w(4, r(5), s(1)), w(7, r(1), s(2)))
		for _, one := range l {
			for k := range one.Arms {
				one.Arms[k].Value = v
			}
		}
		told{l, pairs(pair(2, 0, 4, 0, 5), pair(4, 1, 7, 0, 1)), pairs(pair(-1, 0, 7, 0, 1)), pairs(pair(7, 1, -1, 0, 2))}.test(t)
	}
}
