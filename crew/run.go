package crew

import "squint/api"

// run lets a ready process go on to its next point, or to where it passes a limit.
func (c *Crew[P]) run(id int) []api.Event {
	var told []api.Event
	for {
		p := c.all[id].proc.Run(c.limits.Cells-c.counts.Cells, c.limits.Depth)
		c.counts.Cells += p.Cells
		told = append(told, c.take(id, p)...)
		if c.Spent() || p.Kind != api.PBorn && p.Kind != api.PMake {
			return told
		}
	}
}

// take does what a pause asks for, and tells of it.
func (c *Crew[P]) take(id int, p api.Pause) []api.Event {
	switch p.Kind {
	case api.PTick:
		return c.tick(id)
	case api.PWait:
		c.all[id].state, c.all[id].arms = api.StWaits, p.Arms
	case api.PExit:
		c.leave(id, api.StEnded)
		return one(api.Event{Kind: api.EvExit, P: id})
	case api.PTrap:
		c.leave(id, api.StEnded)
		return one(api.Event{Kind: api.EvTrap, P: id, Num: p.Code})
	case api.PBorn:
		return c.bear(id, p)
	case api.PMake:
		return c.open(id)
	case api.PSpent:
		return c.spend(id, p.Code)
	}
	return nil
}

func (c *Crew[P]) tick(id int) []api.Event {
	if c.counts.Ticks >= c.limits.Ticks {
		return c.spend(id, api.SpentTicks)
	}
	c.counts.Ticks++
	return nil
}

// bear lets a process begin.
func (c *Crew[P]) bear(id int, p api.Pause) []api.Event {
	if c.counts.Procs >= c.limits.Procs {
		return c.spend(id, api.SpentProcs)
	}
	if c.counts.Live >= c.limits.Live {
		return c.spend(id, api.SpentLive)
	}
	child := c.add(c.all[id].proc.Child(p.Fn, p.Args))
	return one(api.Event{Kind: api.EvBorn, P: id, Q: child})
}

// open makes a channel: its number is above those of the world's.
func (c *Crew[P]) open(id int) []api.Event {
	if c.counts.Chans >= c.limits.Chans {
		return c.spend(id, api.SpentChans)
	}
	c.counts.Chans++
	c.all[id].proc.Give(api.Value{Kind: api.VChan, Num: api.Out + c.counts.Chans})
	return nil
}

// spend passes a limit.
func (c *Crew[P]) spend(id, limit int) []api.Event {
	c.spender = id
	return one(api.Event{Kind: api.EvSpent, P: id, Num: limit})
}

func one(e api.Event) []api.Event { return []api.Event{e} }
