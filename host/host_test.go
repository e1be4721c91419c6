package host_test

import (
	"fmt"
	"math"
	"strings"
	"testing"

	"squint/api"
	"squint/host"
	"squint/trace"
)

const (
	least    = math.MinInt
	greatest = math.MaxInt
)

// face is a call that runs a source.
type face struct {
	name string
	run  func(src []byte, s api.Script) (api.Result, api.Errno)
}

var faces = []face{{"Run", host.Run}, {"Walk", host.Walk}}

// hundred are limits that small programs keep to.
func hundred() api.Limits {
	return api.Limits{Procs: 100, Live: 100, Chans: 100, Ticks: 100, Cells: 100, Depth: 10, Nest: 100}
}

// vast are the greatest limits.
func vast() api.Limits {
	return api.Limits{Procs: 1048576, Live: 4096, Chans: 1048576, Ticks: 1048576, Cells: 1048576, Depth: 1048576, Nest: 65536}
}

// turned are limits with one of them, by its number, another one.
func turned(l api.Limits, k, n int) api.Limits {
	*[]*int{&l.Procs, &l.Live, &l.Chans, &l.Ticks, &l.Cells, &l.Depth, &l.Nest}[k] = n
	return l
}

// picks reads picks as they are written in these tests: "step 0, in 0 5, out 0, probe", and "kind 9 1 2" for any pick whatever.
func picks(text string) (out []api.Pick) {
	for _, one := range words(text) {
		var word string
		var n [3]int
		fmt.Sscan(one, &word, &n[0], &n[1], &n[2])
		switch word {
		case "step":
			out = append(out, api.Pick{Kind: 1, N: n[0]})
		case "in":
			out = append(out, api.Pick{Kind: 2, N: n[0], V: n[1]})
		case "out":
			out = append(out, api.Pick{Kind: 3, N: n[0]})
		case "probe":
			out = append(out, api.Pick{Kind: 4})
		case "kind":
			out = append(out, api.Pick{Kind: n[0], N: n[1], V: n[2]})
		default:
			panic("no such pick: " + one)
		}
	}
	return out
}

func words(text string) []string {
	if text == "" {
		return nil
	}
	return strings.Split(text, ", ")
}

func times(n int, text string) string {
	return strings.Join(strings.Split(strings.Repeat(text+"\n", n), "\n")[:n], ", ")
}

// result is a run that told these events, written as the trace writes them, but for the commas.
func result(t *testing.T, text string) api.Result {
	t.Helper()
	events, _, e := trace.Parse(strings.Join(append(words(text), ""), "\n"))
	if e != api.OK {
		t.Fatalf("no events: %q", text)
	}
	return api.Result{Events: events, Spent: strings.Contains(text, "spent")}
}

func faulty(at int, code api.Errno) api.Result {
	return api.Result{Fault: api.Fault{At: at, Code: code}}
}

// show is an answer as a text: all fields of it, but that a nil list is an empty one.
func show(r api.Result, e api.Errno) string { return fmt.Sprint(r, e) }

func shorter(s string) string {
	if len(s) > 3000 {
		return s[:300] + " .. " + s[len(s)-300:]
	}
	return s
}

// hold holds both runs of a source by a script against what they are to answer.
func hold(t *testing.T, src string, s api.Script, want api.Result, code api.Errno) {
	t.Helper()
	for _, f := range faces {
		if got, w := show(f.run([]byte(src), s)), show(want, code); got != w {
			t.Errorf("%s of %s\n by %v:\n %s, not\n %s", f.name, shorter(src), shorter(fmt.Sprint(s)), shorter(got), shorter(w))
		}
	}
}

// told holds what both runs tell against what they are to.
func told(t *testing.T, src string, l api.Limits, does, tells string) {
	t.Helper()
	hold(t, src, api.Script{Limits: l, Picks: picks(does)}, result(t, tells), api.OK)
}

// reaping is told of a script that reaps.
func reaping(t *testing.T, src string, l api.Limits, does, tells string) {
	t.Helper()
	hold(t, src, api.Script{Limits: l, Reap: true, Picks: picks(does)}, result(t, tells), api.OK)
}

// refuses holds the fault of both runs, whatever is picked.
func refuses(t *testing.T, src string, nest, at int, code api.Errno) {
	t.Helper()
	l := turned(hundred(), 6, nest)
	for _, s := range []api.Script{{Limits: l}, {Limits: l, Reap: true, Picks: picks("step 0, probe, kind 9")}} {
		hold(t, src, s, faulty(at, code), api.OK)
	}
}
