package host

import (
	"squint/api"
	"squint/build"
	"squint/check"
	"squint/crew"
	"squint/machine"
	"squint/parse"
	"squint/walk"
)

// play runs a source by a crew of whatever its first process is.
func play[P crew.Proc[P]](src []byte, s api.Script, first func([]api.Node) (P, api.Fault)) (api.Result, api.Errno) {
	if e := refusal(s); e != api.OK {
		return api.Result{}, e
	}
	nodes, fault := read(src, s.Limits.Nest)
	if fault.Code != api.OK {
		return api.Result{Fault: fault}, api.OK
	}
	x, fault := first(nodes)
	if fault.Code != api.OK {
		return api.Result{Fault: fault}, api.OK
	}
	c, e := crew.New(x, s.Limits)
	if e != api.OK {
		return api.Result{}, e
	}
	m := moves{step: c.Step, in: c.In, out: c.Out, probe: c.Probe, spent: c.Spent}
	return api.Result{Events: m.tell(s), Spent: c.Spent()}, api.OK
}

// refusal is why a script is not run at all.
func refusal(s api.Script) api.Errno {
	if e := crew.Check(s.Limits); e != api.OK {
		return e
	}
	if len(s.Picks) > api.MaxPicks {
		return api.ErrScriptMany
	}
	return api.OK
}

// read is a source's tree, or what is wrong with the source. It asks check itself, so that no way to run a tree has a fault of its own.
func read(src []byte, nest int) ([]api.Node, api.Fault) {
	nodes, fault := parse.Parse(src, nest)
	if fault.Code == api.OK {
		_, _, fault = check.Check(nodes)
	}
	return nodes, fault
}

// firstMachine and firstWalk are the first process of a tree. (Of one that check takes there is no fault.)
func firstMachine(nodes []api.Node) (*machine.Machine, api.Fault) {
	unit, fault := build.Build(nodes)
	if fault.Code != api.OK {
		return nil, fault
	}
	x, e := machine.New(unit)
	return x, api.Fault{Code: e}
}

func firstWalk(nodes []api.Node) (*walk.Walker, api.Fault) { return walk.New(nodes) }
