package trace_test

import (
	"testing"

	"squint/api"
	"squint/build"
	"squint/crew"
	"squint/machine"
	"squint/parse"
)

// crewOf has a machine of a source.
func crewOf(t *testing.T, src string, l api.Limits) *crew.Crew[*machine.Machine] {
	t.Helper()
	nodes, fault := parse.Parse([]byte(src), l.Nest)
	if fault.Code != api.OK {
		t.Fatal(src, fault)
	}
	unit, fault := build.Build(nodes)
	if fault.Code != api.OK {
		t.Fatal(src, fault)
	}
	x, code := machine.New(unit)
	if code != api.OK {
		t.Fatal(src, code)
	}
	c, code := crew.New(x, l)
	if code != api.OK {
		t.Fatal(src, code)
	}
	return c
}

// tale is what a run tells: each letter of calls is one.
func tale(t *testing.T, src string, l api.Limits, calls string) []api.Event {
	t.Helper()
	c := crewOf(t, src, l)
	var all []api.Event
	for _, call := range calls {
		switch call {
		case 'i':
			all = append(all, c.In(0, -5)...)
		case 'o':
			all = append(all, c.Out(0)...)
		case 'p':
			all = append(all, c.Probe(false)...)
		case 'r':
			all = append(all, c.Probe(true)...)
		default:
			all = append(all, c.Step(int(call-'0'))...)
		}
	}
	return all
}

// TestRuns: what crews tell has a text, each kind of event among it.
func TestRuns(t *testing.T) {
	many := api.Limits{Procs: 9, Live: 9, Chans: 9, Ticks: 9, Cells: 99, Depth: 9, Nest: 99}
	spent := many
	spent.Chans = 0
	for _, k := range []struct {
		src, calls, want string
		limits           api.Limits
	}{
		{"val c = make chan of int; begin prog() { c <-= 7; }(); val x = <-c; output <-= x;", "0000o00p0", "born 0 1\nmeet 1 0 0 0 3\nout 0 0 7\nexit 0\nexit 1\nprobe\nidle\n", many},
		{"val c = make chan of int; <-c;", "0prr", "probe 0\nprobe 0\nreap 0\nprobe\n", many},
		{"<-input;", "09pii0", "idle\nprobe\nin 0 0 -5\nskip\nexit 0\n", many},
		{"val a = [1, 2]; output <-= a[2];", "30", "skip\ntrap 0 index\n", many},
		{"val c = make chan of int;", "00p", "spent 0 chans\n", spent},
	} {
		holdText(t, k.want, tale(t, k.src, k.limits, k.calls)...)
	}
}
