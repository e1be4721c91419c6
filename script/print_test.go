package script_test

import (
	"math"
	"slices"
	"testing"

	"squint/api"
	"squint/script"
)

// TestPrintPicks: each kind of pick, with the numbers that it has, and with one that it has not.
func TestPrintPicks(t *testing.T) {
	some := []int{0, 1, -1, 7, math.MaxInt, math.MinInt}
	kinds := []int{math.MinInt, -5, -4, -1, 0, 1, 2, 3, 4, 5, 6, 8, 1 << 32, 1<<32 + 1, math.MaxInt}
	for _, kind := range kinds {
		for _, n := range some {
			for _, v := range some {
				p := api.Pick{Kind: kind, N: n, V: v}
				want := api.ErrScriptField
				if kind == api.PickIn || (kind == api.PickStep || kind == api.PickOut) && v == 0 || kind == api.PickProbe && n == 0 && v == 0 {
					want = api.OK
				}
				for _, list := range [][]api.Pick{{p}, {{Kind: api.PickProbe}, p}, {p, {Kind: api.PickIn, N: 1, V: 2}}} {
					if code := holdPrint(t, api.Script{Limits: nines, Picks: list}); code != want {
						t.Errorf("%v: %d, not %d", list, code, want)
					}
				}
			}
		}
	}
}

// TestPrintText: what is written, byte for byte.
func TestPrintText(t *testing.T) {
	holdScript(t, "limits 0 0 0 0 0 0 0\nkeep\n", api.Script{})
	holdScript(t, "limits 1 -2 3 -4 5 -6 7\nreap\nprobe\nout -8\nin 9 -10\nstep 11\nin -12 13\nprobe\n", api.Script{
		Limits: api.Limits{Procs: 1, Live: -2, Chans: 3, Ticks: -4, Cells: 5, Depth: -6, Nest: 7},
		Reap:   true,
		Picks:  []api.Pick{{Kind: api.PickProbe}, {Kind: api.PickOut, N: -8}, {Kind: api.PickIn, N: 9, V: -10}, {Kind: api.PickStep, N: 11}, {Kind: api.PickIn, N: -12, V: 13}, {Kind: api.PickProbe}},
	})
	holdScript(t, "limits 9223372036854775807 -9223372036854775808 9223372036854775807 -9223372036854775808 9223372036854775807 -9223372036854775808 0\nkeep\nin -9223372036854775808 9223372036854775807\n", api.Script{
		Limits: api.Limits{Procs: math.MaxInt, Live: math.MinInt, Chans: math.MaxInt, Ticks: math.MinInt, Cells: math.MaxInt, Depth: math.MinInt},
		Picks:  []api.Pick{{Kind: api.PickIn, N: math.MinInt, V: math.MaxInt}},
	})
}

// TestPrintMany: MaxPicks picks and one more; that there are too many is told whatever they are.
func TestPrintMany(t *testing.T) {
	steps := make([]api.Pick, api.MaxPicks+1)
	for k := range steps {
		steps[k] = api.Pick{Kind: api.PickStep, N: k}
	}
	hold := func(list []api.Pick, want api.Errno) {
		t.Helper()
		if code := holdPrint(t, api.Script{Limits: nines, Picks: list}); code != want {
			t.Errorf("%d picks: %d, not %d", len(list), code, want)
		}
	}
	hold(steps[:api.MaxPicks], api.OK)
	hold(steps[:api.MaxPicks:api.MaxPicks], api.OK)
	hold(steps[1:], api.OK)
	hold(steps, api.ErrScriptMany)
	hold(make([]api.Pick, api.MaxPicks+1), api.ErrScriptMany)
	hold(make([]api.Pick, api.MaxPicks), api.ErrScriptField)
	hold(make([]api.Pick, 3*api.MaxPicks), api.ErrScriptMany)
	for _, at := range []int{0, 1, 2048, api.MaxPicks - 1, api.MaxPicks} {
		for _, p := range []api.Pick{{}, {Kind: 5}, {Kind: api.PickStep, V: 1}, {Kind: api.PickOut, V: 1}, {Kind: api.PickProbe, N: 1}, {Kind: api.PickProbe, V: 1}} {
			list := slices.Clone(steps)
			list[at] = p
			hold(list, api.ErrScriptMany)
			if at < api.MaxPicks {
				hold(list[:api.MaxPicks], api.ErrScriptField)
				hold(list[:at], api.OK)
			}
		}
	}
}

// TestPrintNothing: a nil list of picks and an empty one are the same.
func TestPrintNothing(t *testing.T) {
	for _, list := range [][]api.Pick{nil, {}, make([]api.Pick, 0, 8)} {
		if text, code := script.Print(api.Script{Limits: nines, Picks: list}); text != head || code != api.OK {
			t.Error(text, code)
		}
	}
}
