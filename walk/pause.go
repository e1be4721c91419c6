package walk

import (
	"squint/api"
	"squint/kept"
)

// pause is why a process does not go on.
type pause struct {
	kind, code int
	arms       []arm
	fn         kept.Value
	args       []kept.Value
}

// arm is one with which a process waits.
type arm struct {
	on   int
	send bool
	what kept.Value // of one that receives none
}

// told is a pause as it is answered, but for its cells.
func (p pause) told() api.Pause {
	out := api.Pause{Kind: p.kind, Code: p.code, Fn: p.fn.Tell(), Args: kept.TellAll(p.args)}
	for _, one := range p.arms {
		out.Arms = append(out.Arms, api.Arm{Chan: one.on, Send: one.send, Value: one.what.Tell()})
	}
	return out
}

// stop is where the process is at a pause from then on.
func (x *Walker) stop(p pause) {
	x.pause = p
	switch p.kind {
	case api.PTick, api.PBorn:
		x.goes = true
	case api.PExit, api.PTrap, api.PSpent:
		x.calls, x.spots, x.stack = nil, nil, nil
	}
}

func (x *Walker) tick() { x.stop(pause{kind: api.PTick}) }

func (x *Walker) trap(why int) { x.stop(pause{kind: api.PTrap, code: why}) }

func (x *Walker) spend(what int) { x.stop(pause{kind: api.PSpent, code: what}) }

// wait is where it waits with arms, of which it is told whether they send: their channels, and what they send, were worked out in this order.
func (x *Walker) wait(sends ...bool) {
	var arms []arm
	got := x.taken()
	for _, send := range sends {
		if got[0].Kind != api.VChan {
			x.trap(api.TrapWrong)
			return
		}
		one := arm{on: got[0].Num, send: send}
		got = got[1:]
		if send {
			one.what, got = got[0], got[1:]
		}
		arms = append(arms, one)
	}
	x.stop(pause{kind: api.PWait, arms: arms})
}
