package host_test

import (
	"fmt"
	"strings"
	"testing"

	"squint/api"
	"squint/host"
	"squint/script"
	"squint/trace"
)

// head are the first two lines of scripts.
const head = "limits 100 100 100 100 100 10 100\nkeep\n"

// holdText holds what Text tells against what it is to tell.
func holdText(t *testing.T, src, text, want string) {
	t.Helper()
	if got := host.Text([]byte(src), text); got != want {
		t.Errorf("Text of %s by %q:\n %q, not %q", shorter(src), shorter(text), shorter(got), shorter(want))
	}
}

// P19.3: the chapter's examples.
func TestTextExamples(t *testing.T) {
	text := head + "step 0\nout 0\n"
	holdText(t, "output <-= 1 + 2;", text, "out 0 0 3\n")
	holdText(t, "output <-= 1 +;", text, "fault 14 30\n")
	holdText(t, "output <-= true;", text, "fault 7 60\n")
}

// P19.3: a script that is wrong, in each way, whatever the source is.
func TestTextOfWrongScripts(t *testing.T) {
	limits := "limits 9 9 9 99 999 9 99\n"
	for _, x := range []struct{ text, want string }{
		{"", "script 1 170\n"},
		{"\n", "script 1 170\n"},
		{"nonsense", "script 1 170\n"},
		{"limits 9 9 9 99 999 9 99", "script 1 170\n"},
		{"limit 9 9 9 99 999 9 99\nkeep\n", "script 1 170\n"},
		{"\xff\n", "script 1 170\n"},
		{"limits 1 2 3\nkeep\n", "script 1 171\n"},
		{"limits 9 9 9 99 999 9 99 9\nkeep\n", "script 1 171\n"},
		{"limits 9 9 9 99 999 9 x\nkeep\n", "script 1 171\n"},
		{"limits 0 0 0 0 0 0\nkeep\n", "script 1 171\n"},
		{limits, "script 2 170\n"},
		{limits + "keep", "script 2 170\n"},
		{limits + "step 0\n", "script 2 170\n"},
		{limits + "keep 1\n", "script 2 171\n"},
		{limits + "keep\nstep", "script 3 170\n"},
		{limits + "keep\nstep\n", "script 3 171\n"},
		{limits + "keep\nstep 0\nstep 00\n", "script 4 171\n"},
		{limits + "reap\nin 0\n", "script 3 171\n"},
		{limits + "reap\nprobe 1\n", "script 3 171\n"},
		{limits + "reap\nprobe\nout 0\nkeep\n", "script 5 170\n"},
		{limits + "reap\nin 0 9223372036854775808\n", "script 3 171\n"},
		{limits + "keep\n" + strings.Repeat("probe\n", 4096) + "probe\n", "script 4099 172\n"},
		{"limits 0 0 0 0 0 0 0\nkeep\nskip\n", "script 3 170\n"},
	} {
		for _, src := range []string{"", rightSource, "1 +;", "output <-= true;", "\xff", strings.Repeat(" ", 65537)} {
			holdText(t, src, x.text, x.want)
		}
	}
}

// P19.3: limits that are refused, whatever the source is.
func TestTextOfRefusedLimits(t *testing.T) {
	for _, limits := range []string{"0 100 100 100 100 10 100", "100 4097 100 100 100 10 100", "100 100 -1 100 100 10 100", "100 100 100 1048577 100 10 100", "100 100 100 100 -9223372036854775808 10 100", "100 100 100 100 100 9223372036854775807 100", "100 100 100 100 100 10 65537", "0 0 0 0 0 0 0"} {
		for _, src := range []string{"", rightSource, "1 +;", "output <-= true;", "\xff"} {
			holdText(t, src, "limits "+limits+"\nkeep\n", "refused 160\n")
			holdText(t, src, "limits "+limits+"\nreap\nstep 0\nprobe\n", "refused 160\n")
		}
	}
}

// P19.3: a source that is wrong.
func TestTextOfFaults(t *testing.T) {
	for _, wrong := range wrongSources {
		for _, text := range []string{head, head + "step 0\nprobe\n"} {
			holdText(t, wrong.src, text, fmt.Sprintf("fault %d %d\n", wrong.at, wrong.code))
		}
	}
	holdText(t, strings.Repeat("(", 65537), head, "fault 65536 10\n")
	holdText(t, "val x = 1;", "limits 1 1 0 1 1 1 2\nkeep\n", "fault 0 31\n")
	holdText(t, "val x = 1;", "limits 1 1 0 1 1 1 3\nkeep\nstep 0\n", "exit 0\n")
}

// P19.3: runs, and each kind of event.
func TestTextOfRuns(t *testing.T) {
	holdText(t, "", head, "")
	holdText(t, "", head+"step 0\n", "exit 0\n")
	holdText(t, stage, head, "")
	holdText(t, stage, head+strings.Repeat("step 0\n", 6)+"step 1\nin 0 -9223372036854775808\nout 1\nstep 9\nprobe\n",
		"born 0 1\nborn 0 2\nborn 0 3\nborn 0 4\nborn 0 5\nborn 0 6\nmeet 1 0 0 0 3\nin 2 0 -9223372036854775808\nout 5 0 8\nskip\nprobe\n")
	holdText(t, "val x = 1 / 0;", head+"step 0\nstep 0\n", "trap 0 divide\nidle\n")
	dead := "val f = prog() { <-make chan of int; }; begin f(); begin f(); val x = [1][<-input];"
	picks := "step 0\nstep 0\nstep 0\nprobe\nprobe\nin 0 1\nstep 0\n"
	holdText(t, dead, head+picks, "born 0 1\nborn 0 2\nprobe 1 2\nprobe 1 2\nin 0 0 1\ntrap 0 index\n")
	holdText(t, dead, strings.Replace(head, "keep", "reap", 1)+picks, "born 0 1\nborn 0 2\nprobe 1 2\nreap 1\nreap 2\nprobe\nin 0 0 1\ntrap 0 index\n")
	holdText(t, "while true { }", "limits 1 1 0 1 1 1 9\nkeep\nstep 0\nstep 0\nstep 0\n", "spent 0 ticks\n")
}

// plainText is what Text is said to be.
func plainText(src []byte, text string) string {
	s, line, e := script.Parse(text)
	if e != api.OK {
		return fmt.Sprintf("script %d %d\n", line, e)
	}
	r, e := host.Run(src, s)
	if e != api.OK {
		return fmt.Sprintf("refused %d\n", e)
	}
	if r.Fault.Code != api.OK {
		return fmt.Sprintf("fault %d %d\n", r.Fault.At, r.Fault.Code)
	}
	out, e := trace.Print(r.Events)
	if e != api.OK {
		return fmt.Sprintf("no text: %v\n", r.Events)
	}
	return out
}
