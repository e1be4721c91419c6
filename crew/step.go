package crew

import (
	"squint/api"
	"squint/detect"
	"squint/post"
)

// Count tells how many transitions can happen; Step lets one happen.
func (c *Crew[P]) Count() int {
	if c.Spent() {
		return 0
	}
	return len(c.ready()) + meetings(c.waiters())
}

func (c *Crew[P]) Step(n int) []api.Event {
	if c.Spent() {
		return nil
	}
	ready := c.ready()
	if has(ready, n) {
		return c.run(ready[n])
	}
	pairs := post.Pairs(c.waiters())
	if len(ready)+len(pairs) == 0 {
		return one(api.Event{Kind: api.EvIdle})
	}
	// The least numbers wrap round here, to some that no list has.
	at := n - len(ready)
	if !has(pairs, at) {
		return skip()
	}
	return c.meet(pairs[at])
}

// In: the world sends; Out: it receives.
func (c *Crew[P]) In(n, v int) []api.Event {
	if c.Spent() {
		return nil
	}
	ins := post.Ins(c.waiters())
	if !has(ins, n) {
		return skip()
	}
	to := ins[n]
	c.fire(to.Q, to.J, api.Value{Kind: api.VInt, Num: v})
	return one(api.Event{Kind: api.EvIn, Q: to.Q, J: to.J, Num: v})
}

func (c *Crew[P]) Out(n int) []api.Event {
	if c.Spent() {
		return nil
	}
	outs := post.Outs(c.waiters())
	if !has(outs, n) {
		return skip()
	}
	from := outs[n]
	told := api.Event{Kind: api.EvOut, P: from.P, I: from.I}
	if sent := c.all[from.P].arms[from.I].Value; sent.Kind == api.VInt {
		told.Num = sent.Num
	}
	c.fire(from.P, from.I, api.Value{})
	return one(told)
}

// Probe tells the dead, and reaps them, if it is to.
func (c *Crew[P]) Probe(reap bool) []api.Event {
	if c.Spent() {
		return nil
	}
	dead, _ := detect.Dead(c.Agents())
	told := one(api.Event{Kind: api.EvProbe, List: dead})
	if !reap {
		return told
	}
	for _, id := range dead {
		c.leave(id, api.StReaped)
		told = append(told, api.Event{Kind: api.EvReap, P: id})
	}
	return told
}

// meet lets two that wait go on: what is sent goes from the one to the other.
func (c *Crew[P]) meet(x api.Pair) []api.Event {
	sent := c.all[x.P].arms[x.I].Value
	c.fire(x.P, x.I, api.Value{})
	c.fire(x.Q, x.J, sent)
	return one(api.Event{Kind: api.EvMeet, P: x.P, I: x.I, Q: x.Q, J: x.J, Chan: x.Chan})
}

// fire lets an arm of one that waits happen: it is ready.
func (c *Crew[P]) fire(id, arm int, v api.Value) {
	m := &c.all[id]
	m.proc.Fire(arm, v)
	m.state, m.arms = api.StReady, nil
}

// ready tells the numbers of those that are ready, rising.
func (c *Crew[P]) ready() []int {
	var out []int
	for _, id := range c.live {
		if c.all[id].state == api.StReady {
			out = append(out, id)
		}
	}
	return out
}

// waiters tells those that wait, by rising numbers.
func (c *Crew[P]) waiters() []api.Waiter {
	var out []api.Waiter
	for _, id := range c.live {
		if m := c.all[id]; m.state == api.StWaits {
			out = append(out, api.Waiter{Id: id, Arms: m.arms})
		}
	}
	return out
}

// has tells whether a list has something at a number.
func has[T any](list []T, n int) bool { return n >= 0 && n < len(list) }

func skip() []api.Event { return one(api.Event{Kind: api.EvSkip}) }
