package trace_test

import (
	"fmt"
	"math/big"
	"regexp"
	"slices"
	"strings"
	"testing"

	"squint/api"
	"squint/trace"
)

var (
	trapWords  = []string{"divide", "index", "fill", "nil", "wrong"}
	spentWords = []string{"procs", "live", "chans", "ticks", "cells", "depth"}
)

// lineOf is a second reading of the chapter's table: the line of an event of a kind, and the event with nothing but the fields that this line names.
func lineOf(e api.Event) (string, api.Event) {
	switch e.Kind {
	case 1:
		return fmt.Sprintln("born", e.P, e.Q), api.Event{Kind: 1, P: e.P, Q: e.Q}
	case 2:
		return fmt.Sprintln("meet", e.P, e.I, e.Q, e.J, e.Chan), api.Event{Kind: 2, P: e.P, I: e.I, Q: e.Q, J: e.J, Chan: e.Chan}
	case 3:
		return fmt.Sprintln("in", e.Q, e.J, e.Num), api.Event{Kind: 3, Q: e.Q, J: e.J, Num: e.Num}
	case 4:
		return fmt.Sprintln("out", e.P, e.I, e.Num), api.Event{Kind: 4, P: e.P, I: e.I, Num: e.Num}
	case 5:
		return fmt.Sprintln("exit", e.P), api.Event{Kind: 5, P: e.P}
	case 6:
		if slices.Contains([]int{1, 2, 3, 4, 5}, e.Num) {
			return fmt.Sprintln("trap", e.P, trapWords[e.Num-1]), api.Event{Kind: 6, P: e.P, Num: e.Num}
		}
	case 7:
		return "skip\n", api.Event{Kind: 7}
	case 8:
		return "idle\n", api.Event{Kind: 8}
	case 9:
		return "probe" + strings.TrimSuffix(fmt.Sprintln(append([]any{""}, anys(e.List)...)...), "\n") + "\n", api.Event{Kind: 9, List: e.List}
	case 10:
		return fmt.Sprintln("reap", e.P), api.Event{Kind: 10, P: e.P}
	case 11:
		if slices.Contains([]int{1, 2, 3, 4, 5, 6}, e.Num) {
			return fmt.Sprintln("spent", e.P, spentWords[e.Num-1]), api.Event{Kind: 11, P: e.P, Num: e.Num}
		}
	}
	return "", api.Event{}
}

func anys(list []int) []any {
	var out []any
	for _, n := range list {
		out = append(out, n)
	}
	return out
}

// lineRight is the line of an event; false, if the event may not be.
func lineRight(e api.Event) (string, bool) {
	line, bare := lineOf(e)
	if line == "" || !same(e, bare) || min(e.P, e.I, e.Q, e.J, e.Chan) < 0 {
		return "", false
	}
	sorted := slices.Compact(slices.Sorted(slices.Values(e.List)))
	if !slices.Equal(sorted, e.List) || len(sorted) > 0 && sorted[0] < 0 {
		return "", false
	}
	return line, true
}

const (
	naturalForm = `(0|[1-9][0-9]*)`
	intForm     = `(0|-?[1-9][0-9]*)`
)

// lineForms are the lines of the kinds, from EvBorn on; the pieces in parentheses are their numbers and words.
var lineForms = []*regexp.Regexp{
	form(`born`, naturalForm, naturalForm),
	form(`meet`, naturalForm, naturalForm, naturalForm, naturalForm, naturalForm),
	form(`in`, naturalForm, naturalForm, intForm),
	form(`out`, naturalForm, naturalForm, intForm),
	form(`exit`, naturalForm),
	form(`trap`, naturalForm, `(`+strings.Join(trapWords, "|")+`)`),
	form(`skip`),
	form(`idle`),
	regexp.MustCompile(`\Aprobe((?: ` + naturalForm + `)*)\z`),
	form(`reap`, naturalForm),
	form(`spent`, naturalForm, `(`+strings.Join(spentWords, "|")+`)`),
}

func form(words ...string) *regexp.Regexp {
	return regexp.MustCompile(`\A` + strings.Join(words, " ") + `\z`)
}

// intOf is the number of a word that has a number's form; false, if an int has it not.
func intOf(word string) (int, bool) {
	n, ok := new(big.Int).SetString(word, 10)
	if !ok || !n.IsInt64() {
		return 0, false
	}
	return int(n.Int64()), true
}

// readLine is a second reading of a line; false, if it is no event's.
func readLine(line string) (api.Event, bool) {
	for k, f := range lineForms {
		got := f.FindStringSubmatch(line)
		if got == nil {
			continue
		}
		e := api.Event{Kind: k + 1}
		words := got[1:]
		if e.Kind == api.EvProbe {
			words = strings.Fields(got[1])
		}
		var n []int
		for _, w := range words {
			one, ok := intOf(w)
			if k := slices.Index(trapWords, w) + slices.Index(spentWords, w) + 2; k > 0 {
				one, ok = k, true
			}
			if !ok {
				return api.Event{}, false
			}
			n = append(n, one)
		}
		fill(&e, n)
		_, ok := lineRight(e)
		return e, ok
	}
	return api.Event{}, false
}

// fill puts the numbers of a line into the fields that it names.
func fill(e *api.Event, n []int) {
	switch e.Kind {
	case api.EvBorn:
		e.P, e.Q = n[0], n[1]
	case api.EvMeet:
		e.P, e.I, e.Q, e.J, e.Chan = n[0], n[1], n[2], n[3], n[4]
	case api.EvIn:
		e.Q, e.J, e.Num = n[0], n[1], n[2]
	case api.EvOut:
		e.P, e.I, e.Num = n[0], n[1], n[2]
	case api.EvTrap, api.EvSpent:
		e.P, e.Num = n[0], n[1]
	case api.EvExit, api.EvReap:
		e.P = n[0]
	case api.EvProbe:
		e.List = n
	}
}

// reading is a second reading of P18.3.
func reading(text string) ([]api.Event, int, api.Errno) {
	var list []api.Event
	lines := strings.SplitAfter(text, "\n")
	for k, line := range lines {
		if k == len(lines)-1 && line == "" {
			break
		}
		bare, ended := strings.CutSuffix(line, "\n")
		e, ok := readLine(bare)
		if !ended || !ok {
			return nil, k + 1, api.ErrTraceForm
		}
		list = append(list, e)
	}
	return list, 0, api.OK
}

// printing is a second reading of P18.2.
func printing(l []api.Event) (string, api.Errno) {
	all := ""
	for _, e := range l {
		line, ok := lineRight(e)
		if !ok {
			return "", api.ErrTraceForm
		}
		all += line
	}
	return all, api.OK
}

func same(a, b api.Event) bool {
	return a.Kind == b.Kind && a.P == b.P && a.I == b.I && a.Q == b.Q && a.J == b.J && a.Chan == b.Chan && a.Num == b.Num && slices.Equal(a.List, b.List)
}

func sameAll(a, b []api.Event) bool { return slices.EqualFunc(a, b, same) }

// holdParse holds Parse against the second reading, and Print of what was read against the text; it answers the error.
func holdParse(t *testing.T, text string) api.Errno {
	t.Helper()
	l, line, code := trace.Parse(text)
	wantL, wantLine, wantCode := reading(text)
	if !sameAll(l, wantL) || line != wantLine || code != wantCode {
		t.Fatalf("%.200q: %v, %d, %d, not %v, %d, %d", text, l, line, code, wantL, wantLine, wantCode)
	}
	if code == api.OK {
		if again, code := trace.Print(l); again != text || code != api.OK {
			t.Fatalf("%.200q: printed %.200q, %d", text, again, code)
		}
	}
	return code
}

// holdPrint holds Print and Check against the second reading, and Parse of what was written against the events; it answers the error.
func holdPrint(t *testing.T, l []api.Event) api.Errno {
	t.Helper()
	for _, e := range l {
		_, ok := lineRight(e)
		if code := trace.Check(e); ok != (code == api.OK) || !ok && code != api.ErrTraceForm {
			t.Fatalf("%v: %d", e, code)
		}
	}
	text, code := trace.Print(l)
	if wantText, want := printing(l); text != wantText || code != want {
		t.Fatalf("%v: %.200q, %d, not %.200q, %d", l, text, code, wantText, want)
	}
	if code == api.OK {
		if again, line, code := trace.Parse(text); !sameAll(again, l) || line != 0 || code != api.OK {
			t.Fatalf("%v: %.200q, parsed %v, %d, %d", l, text, again, line, code)
		}
	}
	return code
}
