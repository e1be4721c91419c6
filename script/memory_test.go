package script_test

import (
	"slices"
	"testing"
	"unsafe"

	"squint/api"
	"squint/script"
)

var spoil = api.Pick{Kind: 4711, N: 4711, V: 4711}

// TestHandedIn: Print changes nothing of the picks, nor of the room ahead of and behind them.
func TestHandedIn(t *testing.T) {
	for _, one := range []api.Pick{{Kind: api.PickIn, N: 1, V: 2}, {Kind: api.PickStep, V: 1}, {Kind: 9}} {
		room := []api.Pick{spoil, {Kind: api.PickStep, N: 3}, one, {Kind: api.PickProbe}, spoil, spoil}
		before := slices.Clone(room)
		script.Print(api.Script{Limits: nines, Picks: room[1:4]})
		if !slices.Equal(room, before) {
			t.Error(room)
		}
	}
	long := make([]api.Pick, api.MaxPicks+2)
	script.Print(api.Script{Picks: long[:api.MaxPicks+1]})
	if !slices.Equal(long, make([]api.Pick, api.MaxPicks+2)) {
		t.Error("the picks were changed")
	}
}

// TestPrintKeepsNothing: what becomes of the picks behind a call is not seen in what it wrote.
func TestPrintKeepsNothing(t *testing.T) {
	list := []api.Pick{{Kind: api.PickStep, N: 3}, {Kind: api.PickProbe}}
	text, _ := script.Print(api.Script{Limits: nines, Picks: list})
	list[0], list[1] = spoil, spoil
	if text != head+"step 3\nprobe\n" {
		t.Error(text)
	}
	if again, code := script.Print(api.Script{Limits: nines, Picks: list[:0]}); again != head || code != api.OK || text != head+"step 3\nprobe\n" {
		t.Error(text, again, code)
	}
}

// TestParseKeepsNothing: a text whose bytes change behind the call is not seen in the script.
func TestParseKeepsNothing(t *testing.T) {
	bytes := []byte(head + "step 3\nin 4 -5\n")
	text := unsafe.String(&bytes[0], len(bytes))
	s, _, _ := script.Parse(text)
	if string(bytes) != head+"step 3\nin 4 -5\n" {
		t.Errorf("the text was changed: %q", bytes)
	}
	for k := range bytes {
		bytes[k] = 'x'
	}
	if !same(s, api.Script{Limits: nines, Picks: []api.Pick{{Kind: api.PickStep, N: 3}, {Kind: api.PickIn, N: 4, V: -5}}}) {
		t.Error(s)
	}
}

// TestAnswersAreApart: what a caller writes into a script, and into the room behind its picks, no other answer shows.
func TestAnswersAreApart(t *testing.T) {
	for _, picks := range []string{"", "probe\n", "step 1\nin 2 3\nout 4\n", "step 1\nin 2 3\nout 4\nprobe\nprobe\n"} {
		text := head + picks
		want, _, _ := reading(text)
		earlier, _, _ := script.Parse(text)
		s, _, _ := script.Parse(text)
		room := s.Picks[:cap(s.Picks)]
		for k := range room {
			room[k] = spoil
		}
		later, _, _ := script.Parse(text)
		if !same(earlier, want) || !same(later, want) {
			t.Errorf("%q: %v, %v", text, earlier, later)
		}
		for _, p := range later.Picks[:cap(later.Picks)] {
			if p == spoil {
				t.Errorf("%q: the room behind the picks shows what another answer got", text)
			}
		}
		if again, code := script.Print(later); again != text || code != api.OK {
			t.Errorf("%q: %q, %d", text, again, code)
		}
	}
}

// TestAgain: a call answers the same, whatever was asked between.
func TestAgain(t *testing.T) {
	texts := []string{head + "step 1\n", "", head + "step 01\n", first + "reap\nin 1 2\nprobe\n", head + "x\n", first}
	for range 3 {
		for _, text := range texts {
			holdParse(t, text)
		}
		holdPrint(t, api.Script{Picks: []api.Pick{{Kind: api.PickProbe, N: 1}}})
		holdPrint(t, api.Script{Reap: true, Picks: []api.Pick{{Kind: api.PickOut, N: 1}}})
	}
}
