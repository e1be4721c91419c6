package explore

import (
	"cmp"
	"slices"

	"squint/api"
)

// leg is a transition of a run: which one was picked, and what it told.
type leg struct {
	pick int
	told []api.Event
}

// run is the transitions of a run, in order.
type run []leg

// unlike is what runs told: each unlike list once, in the order of the lists.
func unlike(all []run) [][]api.Event {
	slices.SortFunc(all, compareRuns)
	all = slices.CompactFunc(all, func(a, b run) bool { return compareRuns(a, b) == 0 })
	out := make([][]api.Event, 0, len(all))
	for _, r := range all {
		out = append(out, r.events())
	}
	return out
}

// events is all that a run told. Runs have legs in common, but no memory of what is answered.
func (r run) events() []api.Event {
	many := 0
	for _, one := range r {
		many += len(one.told)
	}
	out := make([]api.Event, 0, many)
	for _, one := range r {
		for _, e := range one.told {
			e.List = slices.Clone(e.List)
			out = append(out, e)
		}
	}
	return out
}

// compareRuns is the order of what two runs told.
func compareRuns(a, b run) int {
	// As long as they picked the same they told the same.
	for len(a) > 0 && len(b) > 0 && a[0].pick == b[0].pick {
		a, b = a[1:], b[1:]
	}
	x, y := reader{left: a}, reader{left: b}
	for {
		e, more := x.next()
		f, other := y.next()
		if !more || !other {
			return behind(more, other)
		}
		if c := compareEvents(e, f); c != 0 {
			return c
		}
	}
}

// behind is the order of two lists that were alike so far, by which of them has more.
func behind(more, other bool) int {
	if more == other {
		return 0
	}
	if more {
		return 1
	}
	return -1
}

// compareEvents is the order of two events.
func compareEvents(a, b api.Event) int {
	return cmp.Or(
		cmp.Compare(a.Kind, b.Kind),
		cmp.Compare(a.P, b.P),
		cmp.Compare(a.I, b.I),
		cmp.Compare(a.Q, b.Q),
		cmp.Compare(a.J, b.J),
		cmp.Compare(a.Chan, b.Chan),
		cmp.Compare(a.Num, b.Num),
		slices.Compare(a.List, b.List),
	)
}

// reader goes through what is left of a run, event by event: no list is joined only to be compared.
type reader struct {
	left run
	at   int // how many events of the first leg are read
}

// next is the next event; false, if there is none.
func (r *reader) next() (api.Event, bool) {
	for len(r.left) > 0 && r.at == len(r.left[0].told) {
		r.left, r.at = r.left[1:], 0
	}
	if len(r.left) == 0 {
		return api.Event{}, false
	}
	r.at++
	return r.left[0].told[r.at-1], true
}
