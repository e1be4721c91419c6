package machine

import (
	"squint/api"
	"squint/kept"
)

// pause is why a machine does not go on.
type pause struct {
	kind, code int
	arms       []arm
	fn         kept.Value
	args       []kept.Value
}

// arm is one with which a machine waits.
type arm struct {
	on   int
	send bool
	what kept.Value // of one that receives none
	next int        // where it goes on
}

// told is a pause as it is answered, but for its cells.
func (p pause) told() api.Pause {
	out := api.Pause{Kind: p.kind, Code: p.code, Fn: p.fn.Tell(), Args: kept.TellAll(p.args)}
	for _, one := range p.arms {
		out.Arms = append(out.Arms, api.Arm{Chan: one.on, Send: one.send, Value: one.what.Tell()})
	}
	return out
}

// stop is where the machine is at a pause from then on.
func (x *Machine) stop(p pause) {
	x.pause = p
	switch p.kind {
	case api.PTick, api.PBorn:
		x.goes = true
	case api.PExit, api.PTrap, api.PSpent:
		x.calls = nil
	}
}

func (x *Machine) trap(why int) { x.stop(pause{kind: api.PTrap, code: why}) }

func (x *Machine) spend(what int) { x.stop(pause{kind: api.PSpent, code: what}) }

func (x *Machine) channel(api.Ins, []kept.Value) { x.stop(pause{kind: api.PMake}) }

func (x *Machine) wait(i api.Ins, got []kept.Value) {
	var arms []arm
	for k := 0; k < len(i.List); k += 2 {
		if got[0].Kind != api.VChan {
			x.trap(api.TrapWrong)
			return
		}
		one := arm{on: got[0].Num, send: i.List[k] == 1, next: i.List[k+1]}
		got = got[1:]
		if one.send {
			one.what, got = got[0], got[1:]
		}
		arms = append(arms, one)
	}
	x.stop(pause{kind: api.PWait, arms: arms})
}
