package detect

import (
	"maps"
	"slices"

	"squint/api"
)

const (
	// world is the number of the one that is no agent.
	world = -1
	// nobody is sought by who wants to know of all: no agent has such an Id.
	nobody = -1
)

// way is how an agent can be woken: its level, and its link.
type way struct {
	level int
	link  api.Link
}

// search is who there is, and how they can be woken, as far as that has been found.
type search struct {
	who  map[int]api.Agent // by Ids
	at   map[int][]int     // who waits at a channel, but for channels that have been opened: all who wait there have been found
	ways map[int]way       // by Ids
}

// find tells the ways of those that can be woken, by Ids: of all, or of so many that those up to the sought one are among them.
func find(s []api.Agent, sought int) map[int]way {
	x := search{who: byId(s), at: waiting(s), ways: map[int]way{}}
	next := x.outset(s)
search:
	for level := 1; len(next) > 0; level++ {
		for id, l := range next {
			x.ways[id] = way{level: level, link: l}
			if id == sought {
				break search
			}
		}
		next = x.open(x.holders(slices.Sorted(maps.Keys(next))))
	}
	return x.ways
}

// byId tells who there is.
func byId(s []api.Agent) map[int]api.Agent {
	who := map[int]api.Agent{}
	for _, a := range s {
		who[a.Id] = a
	}
	return who
}

// waiting tells who waits at each channel; at nil, too, which is never opened, for nobody holds it.
func waiting(s []api.Agent) map[int][]int {
	at := map[int][]int{}
	for _, a := range s {
		for _, arm := range a.Arms {
			at[arm.Chan] = append(at[arm.Chan], a.Id)
		}
	}
	return at
}

// holders tells of each channel that is not opened yet which of these, by rising Ids, holds it: the first one.
func (x search) holders(ids []int) map[int]int {
	out := map[int]int{}
	for _, id := range ids {
		for _, channel := range x.who[id].Held {
			_, closed := x.at[channel]
			if _, held := out[channel]; closed && !held {
				out[channel] = id
			}
		}
	}
	return out
}

// open tells the links of those who wait at the channels that are held so, and were not found yet.
func (x search) open(holders map[int]int) map[int]api.Link {
	out := map[int]api.Link{}
	holder := func(arm api.Hand) (int, bool) {
		id, held := holders[arm.Chan]
		return id, held
	}
	for channel := range holders {
		for _, id := range x.at[channel] {
			_, found := x.ways[id]
			if _, again := out[id]; !found && !again {
				out[id], _ = link(x.who[id], holder)
			}
		}
		delete(x.at, channel)
	}
	return out
}

// link is an agent's link by the first one of its arms for which there is a waker.
func link(a api.Agent, waker func(arm api.Hand) (int, bool)) (api.Link, bool) {
	for _, arm := range a.Arms {
		if id, ok := waker(arm); ok {
			return api.Link{Waker: id, Woken: a.Id, Chan: arm.Chan}, true
		}
	}
	return api.Link{}, false
}
