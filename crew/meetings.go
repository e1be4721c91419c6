package crew

import "squint/api"

// ends is how many arms send on a channel, and how many receive.
type ends struct{ sending, receiving int }

// meetings tells how many pairs post.Pairs has. Of two that wait with many arms there are very many pairs: whoever asks how many does not want them laid out.
func meetings(l []api.Waiter) int {
	many := 0
	ahead := map[int]ends{}
	for _, w := range l {
		// It meets those ahead of it, and so nobody meets itself.
		for channel, own := range endsOf(w) {
			all := ahead[channel]
			many += own.sending*all.receiving + own.receiving*all.sending
			ahead[channel] = ends{all.sending + own.sending, all.receiving + own.receiving}
		}
	}
	return many
}

// endsOf tells of each channel, but nil, what the arms of one that waits do there.
func endsOf(w api.Waiter) map[int]ends {
	out := map[int]ends{}
	for _, a := range w.Arms {
		if a.Chan <= 0 {
			continue
		}
		on := out[a.Chan]
		if a.Send {
			on.sending++
		} else {
			on.receiving++
		}
		out[a.Chan] = on
	}
	return out
}
