package post

import (
	"iter"

	"squint/api"
)

// those hands out the items of a list that have a property, each with its place in the list.
func those[T any](list []T, has func(T) bool) iter.Seq2[int, T] {
	return func(yield func(int, T) bool) {
		for i, one := range list {
			if has(one) && !yield(i, one) {
				return
			}
		}
	}
}

// spot is where an arm stands: its process, its place there, its channel.
type spot struct{ id, place, channel int }

// spots hands out where the arms that have a property stand, in the order of the list; none of a list that is not right.
func spots(l []api.Waiter, has func(api.Arm) bool) iter.Seq[spot] {
	return func(yield func(spot) bool) {
		if !right(l) {
			return
		}
		for _, w := range l {
			for i, arm := range those(w.Arms, has) {
				if !yield(spot{w.Id, i, arm.Chan}) {
					return
				}
			}
		}
	}
}

// right tells whether the Ids are from 0 on, each above the one ahead of it.
func right(l []api.Waiter) bool {
	ahead := -1
	for _, w := range l {
		if w.Id <= ahead {
			return false
		}
		ahead = w.Id
	}
	return true
}

// group is the places of all arms of a process that receive on one channel.
type group struct {
	id     int
	places []int
}

// receivers tells of each channel who receives there, in the order of the list. They stand in groups so that a process passes by its own arms at once, however many they are.
func receivers(l []api.Waiter) map[int][]group {
	on := map[int][]group{}
	for to := range spots(l, receives) {
		all := on[to.channel]
		if n := len(all); n == 0 || all[n-1].id != to.id {
			all = append(all, group{id: to.id})
		}
		last := &all[len(all)-1]
		last.places = append(last.places, to.place)
		on[to.channel] = all
	}
	return on
}
