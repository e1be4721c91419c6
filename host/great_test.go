package host_test

import (
	"fmt"
	"slices"
	"strings"
	"testing"
)

// P19.4: values that use all cells there can be, and one more.
func TestGreatValues(t *testing.T) {
	told(t, "val a = fill(1048575, 7); output <-= len(a) + a[1048574];", vast(), "step 0, out 0, step 0", "out 0 0 1048582, exit 0")
	told(t, "val a = fill(1048576, 7); output <-= 1;", vast(), "step 0, out 0, step 0", "spent 0 cells")
	told(t, "val a = fill(9223372036854775807, 7); output <-= 1;", vast(), "step 0, out 0, step 0", "spent 0 cells")
	told(t, "val a = fill(1000, fill(1000, 3)); output <-= a[999][999];", vast(), "step 0, out 0, step 0", "out 0 0 3, exit 0")
	told(t, "var a: array of int = fill(500000, 1); a[499999] = 2; output <-= a[499999];", vast(), "step 0, out 0", "out 0 0 2")
	told(t, "var a: array of int = fill(600000, 1); a[599999] = 2; output <-= a[599999];", vast(), "step 0, out 0", "spent 0 cells")

	sent := "val c = make chan of array of int; begin prog() { val b = <-c; output <-= len(b) + b[999999]; }(); val a = fill(1000000, 3); c <-= a;"
	told(t, sent, vast(), "step 0, step 0, probe, step 0, step 0, step 0, out 0, step 0", "born 0 1, probe, meet 0 0 1 0 3, exit 0, out 1 0 1000003, exit 1")
	captured := "val a = fill(300000, 3); val f = prog(n: int) { output <-= a[n]; }; val g = prog() { f(299999); }; begin g(); begin f(5);"
	told(t, captured, vast(), "step 0, step 0, step 0, step 0, out 0, out 0", "born 0 1, born 0 2, exit 0, out 1 0 3, out 2 0 3")
}

// P19.4: values that are deep, sent and received; and channels deep in them.
func TestDeepValues(t *testing.T) {
	deep := "type R = array of R; val c = make chan of R; begin prog() { var b: R = <-c; var n: int; while len(b) > 0 { b = b[0]; n = n + 1; } output <-= n; }(); var r: R; var i: int; while i < 1000 { r = [r]; i = i + 1; } c <-= r;"
	does := behind(times(1002, "step 0"), "step 0, step 0, "+times(1001, "step 0")+", out 0, step 0")
	tells := "born 0 1, meet 0 0 1 0 3, exit 0, out 1 0 1000, exit 1"
	told(t, deep, vast(), does, tells)

	held := "type L = (chan of int, array of L); val d = make chan of int; val c = make chan of L; begin prog() { var l: L = <-c; while len(l.1) > 0 { l = l.1[0]; } l.0 <-= 5; }(); { var l: L = (d, fill(0, prog(): L { var z: L; return z; }())); var i: int; while i < 100 { var z: chan of int; l = (z, [l]); i = i + 1; } c <-= l; } output <-= <-d;"
	does = strings.Join([]string{times(103, "step 0"), "probe", times(50, "step 0"), "probe", times(53, "step 0"), "step 0, step 0, step 0, out 0, step 0, probe"}, ", ")
	told(t, held, vast(), does, "born 0 1, probe, meet 0 0 1 0 4, probe, meet 1 0 0 0 3, exit 1, out 0 0 5, exit 0, probe")
}

// P19.4: as many processes as scripts can let run; each gets what is its own.
func TestManyProcesses(t *testing.T) {
	src := "val f = prog(n: int) { output <-= n * 10 + <-input; }; var i: int; while i < 900 { i = i + 1; begin f(i); }"
	var does, tells []string
	does = append(does, times(1801, "step 0"), "probe")
	var waiting, outs, ready []int
	for k := range 900 {
		tells = append(tells, fmt.Sprintf("born 0 %d", k+1))
		waiting = append(waiting, k+1)
	}
	tells = append(tells, "exit 0", "probe")
	got := map[int]int{}
	for k := range 700 {
		at := k * 7919 % len(waiting)
		id := waiting[at]
		waiting, outs, got[id] = slices.Delete(waiting, at, at+1), append(outs, id), k-350
		does = append(does, fmt.Sprintf("in %d %d", at, k-350), "step 0")
		tells = append(tells, fmt.Sprintf("in %d 0 %d", id, k-350))
	}
	slices.Sort(outs)
	for k := range 500 {
		at := k * 7919 % len(outs)
		id := outs[at]
		does = append(does, fmt.Sprintf("out %d", at))
		tells = append(tells, fmt.Sprintf("out %d 0 %d", id, id*10+got[id]))
		outs, ready = slices.Delete(outs, at, at+1), append(ready, id)
		if k%2 == 0 {
			slices.Sort(ready)
			does, tells = append(does, "step 0"), append(tells, fmt.Sprintf("exit %d", ready[0]))
			ready = ready[1:]
		}
	}
	told(t, src, vast(), strings.Join(does, ", "), strings.Join(tells, ", "))
}

// P19.4: as many live as may, and one more.
func TestManyLive(t *testing.T) {
	src := "val f = prog() { <-input; }; " + strings.Repeat("begin f(); ", 4095)
	var born []string
	for k := range 4095 {
		born = append(born, fmt.Sprintf("born 0 %d", k+1))
	}
	all := strings.Join(born, ", ")
	told(t, src, vast(), "step 0, step 4095, step 4094, step 0, step 4093, in 0 1, step 4094, in 0 2, step 4094, step 0", all+", exit 0, skip, skip, in 1 0 1, skip, in 4095 0 2, exit 4095, exit 1")
	src += "begin f();"
	told(t, src, vast(), "step 0, step 0, probe, kind 7", all+", spent 0 live")
}
