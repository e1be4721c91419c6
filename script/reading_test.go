package script_test

import (
	"math/big"
	"regexp"
	"slices"
	"strings"
	"testing"

	"squint/api"
	"squint/script"
)

// numberForm is what a number looks like, but for the bounds of an int.
const numberForm = `(?:0|-?[1-9][0-9]*)`

// lineForms are the lines of the table, by their first words.
var lineForms = map[string]*regexp.Regexp{
	"limits": regexp.MustCompile(`\Alimits(?: ` + numberForm + `){7}\z`),
	"keep":   regexp.MustCompile(`\Akeep\z`),
	"reap":   regexp.MustCompile(`\Areap\z`),
	"step":   regexp.MustCompile(`\Astep ` + numberForm + `\z`),
	"in":     regexp.MustCompile(`\Ain ` + numberForm + ` ` + numberForm + `\z`),
	"out":    regexp.MustCompile(`\Aout ` + numberForm + `\z`),
	"probe":  regexp.MustCompile(`\Aprobe\z`),
}

var pickKinds = map[string]int{"step": api.PickStep, "in": api.PickIn, "out": api.PickOut, "probe": api.PickProbe}

// numbersOf are the numbers of a line that has the form of its word; false, if an int has not one of them.
func numbersOf(line string) ([]int, bool) {
	var list []int
	for _, w := range strings.Split(line, " ")[1:] {
		n, ok := new(big.Int).SetString(w, 10)
		if !ok || !n.IsInt64() {
			return nil, false
		}
		list = append(list, int(n.Int64()))
	}
	return list, true
}

// wordsAt are the first words that the table has for a line of a number, from 1 on.
func wordsAt(line int) []string {
	switch line {
	case 1:
		return []string{"limits"}
	case 2:
		return []string{"keep", "reap"}
	}
	return []string{"step", "in", "out", "probe"}
}

// reading is a second reading of P17.1.
func reading(text string) (api.Script, int, api.Errno) {
	var s api.Script
	lines := strings.SplitAfter(text, "\n")
	if lines[len(lines)-1] == "" {
		lines = lines[:len(lines)-1]
	}
	for k := range max(2, len(lines)) {
		if k >= len(lines) {
			return api.Script{}, k + 1, api.ErrScriptWord
		}
		line, ended := strings.CutSuffix(lines[k], "\n")
		word := strings.Split(line, " ")[0]
		if !ended || !slices.Contains(wordsAt(k+1), word) {
			return api.Script{}, k + 1, api.ErrScriptWord
		}
		if k >= 2+api.MaxPicks {
			return api.Script{}, k + 1, api.ErrScriptMany
		}
		if !lineForms[word].MatchString(line) {
			return api.Script{}, k + 1, api.ErrScriptField
		}
		n, ok := numbersOf(line)
		if !ok {
			return api.Script{}, k + 1, api.ErrScriptField
		}
		take(&s, word, n)
	}
	return s, 0, api.OK
}

// take puts into a script what a line that is right says.
func take(s *api.Script, word string, n []int) {
	switch word {
	case "limits":
		s.Limits = api.Limits{Procs: n[0], Live: n[1], Chans: n[2], Ticks: n[3], Cells: n[4], Depth: n[5], Nest: n[6]}
	case "keep", "reap":
		s.Reap = word == "reap"
	default:
		n = append(n, 0, 0)
		s.Picks = append(s.Picks, api.Pick{Kind: pickKinds[word], N: n[0], V: n[1]})
	}
}

func same(a, b api.Script) bool {
	return a.Limits == b.Limits && a.Reap == b.Reap && slices.Equal(a.Picks, b.Picks)
}

// holdParse holds Parse against the second reading, and Print of what was read against the text; it answers the error.
func holdParse(t *testing.T, text string) api.Errno {
	t.Helper()
	s, line, code := script.Parse(text)
	wantS, wantLine, wantCode := reading(text)
	if !same(s, wantS) || line != wantLine || code != wantCode {
		t.Fatalf("%q: %v, %d, %d, not %v, %d, %d", text, s, line, code, wantS, wantLine, wantCode)
	}
	if code == api.OK {
		if again, code := script.Print(s); again != text || code != api.OK {
			t.Fatalf("%q: printed %q, %d", text, again, code)
		}
	}
	return code
}

// printing is a second reading of P17.2: whether a script has a text, and why not.
func printing(s api.Script) api.Errno {
	if len(s.Picks) > 4096 {
		return api.ErrScriptMany
	}
	for _, p := range s.Picks {
		switch p {
		case api.Pick{Kind: api.PickStep, N: p.N}, api.Pick{Kind: api.PickIn, N: p.N, V: p.V}, api.Pick{Kind: api.PickOut, N: p.N}, api.Pick{Kind: api.PickProbe}:
		default:
			return api.ErrScriptField
		}
	}
	return api.OK
}

// holdPrint holds Print against the second reading, and Parse of what was written against the script; it answers the error.
func holdPrint(t *testing.T, s api.Script) api.Errno {
	t.Helper()
	text, code := script.Print(s)
	if want := printing(s); code != want || code != api.OK && text != "" {
		t.Fatalf("%v: %q, %d, not %d", s, text, code, want)
	}
	if code == api.OK {
		if again, line, code := script.Parse(text); !same(again, s) || line != 0 || code != api.OK {
			t.Fatalf("%v: %q, parsed %v, %d, %d", s, text, again, line, code)
		}
	}
	return code
}
