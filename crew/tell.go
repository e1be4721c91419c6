package crew

import "squint/api"

// Rows, Agents, Counts and Spent tell how it stands.
func (c *Crew[P]) Rows() []api.Row {
	rows := make([]api.Row, len(c.all))
	for id, m := range c.all {
		rows[id] = api.Row{Id: id, State: m.state}
	}
	for _, id := range c.live {
		rows[id].Arms, rows[id].Held = hands(c.all[id].arms), c.held(id)
	}
	return rows
}

func (c *Crew[P]) Agents() []api.Agent {
	agents := make([]api.Agent, 0, len(c.live))
	for _, id := range c.live {
		m := c.all[id]
		agents = append(agents, api.Agent{Id: id, Awake: m.state == api.StReady, Arms: hands(m.arms), Held: c.held(id)})
	}
	return agents
}

func (c *Crew[P]) Counts() api.Counts { return c.counts }

func (c *Crew[P]) Spent() bool { return c.spender != nobody }

// held tells the channels that a process holds. One that passed a limit has none, whatever it stood at then.
func (c *Crew[P]) held(id int) []int {
	if id == c.spender {
		return nil
	}
	return append([]int(nil), c.all[id].proc.Held()...)
}

// hands are arms without what they send.
func hands(arms []api.Arm) []api.Hand {
	var out []api.Hand
	for _, a := range arms {
		out = append(out, api.Hand{Chan: a.Chan, Send: a.Send})
	}
	return out
}
