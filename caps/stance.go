package caps

import (
	"slices"

	"squint/api"
)

// world is the number of the one that is no agent.
const world = -1

// stance is how somebody stands at a channel: awake, and holding it; or waiting, with arms there that send, that receive, or with both.
type stance struct{ awake, sends, receives bool }

// wakes tells whether who stands so can wake another one that stands as other does.
func (how stance) wakes(other stance) bool {
	return how.awake && (other.sends || other.receives) || how.sends && other.receives || how.receives && other.sends
}

// standing tells how an agent stands at a channel.
func standing(a api.Agent, channel int) stance {
	if a.Awake {
		_, held := slices.BinarySearch(a.Held, channel)
		return stance{awake: held}
	}
	return waiting(a)[channel]
}

// waiting tells how an agent with arms stands at each channel that they are on: nobody stands at nil.
func waiting(a api.Agent) map[int]stance {
	at := map[int]stance{}
	for _, arm := range a.Arms {
		if arm.Chan != 0 {
			how := at[arm.Chan]
			at[arm.Chan] = stance{sends: how.sends || arm.Send, receives: how.receives || !arm.Send}
		}
	}
	return at
}

// byId tells who there is, the world among them: to those that it wakes it is like one that waits to send on In and to receive on Out.
func byId(s []api.Agent) map[int]api.Agent {
	who := map[int]api.Agent{
		world: {Id: world, Arms: []api.Hand{{Chan: api.In, Send: true}, {Chan: api.Out}}},
	}
	for _, a := range s {
		who[a.Id] = a
	}
	return who
}

// crowd is who stands at a channel. Those that stand alike are in one list, so that the work grows with the links alone, however many wait that do not fit.
type crowd map[stance][]int

// byChannel tells who stands at each channel where somebody waits.
func byChannel(who map[int]api.Agent) map[int]crowd {
	where := map[int]crowd{}
	for id, a := range who {
		for channel, how := range waiting(a) {
			if where[channel] == nil {
				where[channel] = crowd{}
			}
			where[channel][how] = append(where[channel][how], id)
		}
	}
	for id, a := range who {
		if a.Awake {
			join(where, id, a.Held)
		}
	}
	return where
}

// join adds one that is awake to those who wait at what it holds; where nobody waits it has nobody to wake.
func join(where map[int]crowd, id int, held []int) {
	awake := stance{awake: true}
	for _, channel := range held {
		if there := where[channel]; there != nil {
			there[awake] = append(there[awake], id)
		}
	}
}

// fits tells whether a link can happen among them: nobody wakes the world, nor itself.
func fits(who map[int]api.Agent, l api.Link) bool {
	if l.Woken == world || l.Waker == l.Woken {
		return false
	}
	return standing(who[l.Waker], l.Chan).wakes(standing(who[l.Woken], l.Chan))
}

// wakers are those of a crowd that can wake one of theirs, which stands so, by rising Ids; it does not wake itself.
func wakers(there crowd, so stance, woken int) []int {
	var out []int
	for how, ids := range there {
		if !how.wakes(so) {
			continue
		}
		for _, id := range ids {
			if id != woken {
				out = append(out, id)
			}
		}
	}
	slices.Sort(out)
	return out
}
