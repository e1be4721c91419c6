package detect

import "squint/api"

// outset tells the links of the level 1, by the Ids of the woken: those that need no link ahead of them.
func (x search) outset(s []api.Agent) map[int]api.Link {
	holders, hands := x.holders(awake(s)), byHand(s)
	out := map[int]api.Link{}
	for _, a := range s {
		l, ok := link(a, func(arm api.Hand) (int, bool) {
			if worldly(arm) {
				return world, true
			}
			if id, held := holders[arm.Chan]; held {
				return id, true
			}
			return other(hands[api.Hand{Chan: arm.Chan, Send: !arm.Send}], a.Id)
		})
		if ok {
			out[a.Id] = l
		}
	}
	return out
}

// awake tells the Ids of those that are awake, rising.
func awake(s []api.Agent) []int {
	var ids []int
	for _, a := range s {
		if a.Awake {
			ids = append(ids, a.Id)
		}
	}
	return ids
}

// byHand tells who waits with an arm, each once, rising; an arm on nil fits none.
func byHand(s []api.Agent) map[api.Hand][]int {
	hands := map[api.Hand][]int{}
	for _, a := range s {
		for _, arm := range a.Arms {
			ids := hands[arm]
			if n := len(ids); arm.Chan != 0 && (n == 0 || ids[n-1] != a.Id) {
				hands[arm] = append(ids, a.Id)
			}
		}
	}
	return hands
}

// worldly tells whether the world is at an arm's other end.
func worldly(arm api.Hand) bool {
	return arm.Chan == api.In && !arm.Send || arm.Chan == api.Out && arm.Send
}

// other is the first one of these Ids that is not this one.
func other(ids []int, id int) (int, bool) {
	for _, one := range ids {
		if one != id {
			return one, true
		}
	}
	return 0, false
}
