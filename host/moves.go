package host

import "squint/api"

// moves are what picks do with a crew, whatever runs its processes.
type moves struct {
	step  func(n int) []api.Event
	in    func(n, v int) []api.Event
	out   func(n int) []api.Event
	probe func(reap bool) []api.Event
	spent func() bool
}

// tell does the picks of a script, and tells all that happens.
func (m moves) tell(s api.Script) []api.Event {
	var told []api.Event
	for _, p := range s.Picks {
		told = append(told, m.do(p, s.Reap)...)
	}
	return told
}

func (m moves) do(p api.Pick, reap bool) []api.Event {
	switch p.Kind {
	case api.PickStep:
		return m.step(p.N)
	case api.PickIn:
		return m.in(p.N, p.V)
	case api.PickOut:
		return m.out(p.N)
	case api.PickProbe:
		return m.probe(reap)
	}
	if m.spent() {
		return nil
	}
	return []api.Event{{Kind: api.EvSkip}}
}
