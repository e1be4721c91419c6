package trace_test

import (
	"fmt"
	"math"
	"slices"
	"strings"
	"testing"

	"squint/api"
	"squint/trace"
)

// holdText holds events and their text against each other, both ways.
func holdText(t *testing.T, text string, l ...api.Event) {
	t.Helper()
	if got, code := trace.Print(l); got != text || code != api.OK {
		t.Errorf("%v: %q, %d, not %q", l, got, code, text)
	}
	if got, line, code := trace.Parse(text); !sameAll(got, l) || line != 0 || code != api.OK {
		t.Errorf("%q: %v, %d, %d, not %v", text, got, line, code, l)
	}
}

// P18.2: the line of each kind, letter for letter.
func TestLines(t *testing.T) {
	text := ""
	var all []api.Event
	for _, s := range samples {
		holdText(t, s.line+"\n", s.event)
		text += s.line + "\n"
		all = append(all, s.event)
		holdText(t, text, all...)
		holdText(t, s.line+"\n"+s.line+"\n", s.event, s.event)
	}
	holdText(t, "born 0 0\nmeet 0 0 0 0 0\nin 0 0 0\nout 0 0 0\nexit 0\nreap 0\nprobe 0\n", api.Event{Kind: 1}, api.Event{Kind: 2}, api.Event{Kind: 3}, api.Event{Kind: 4}, api.Event{Kind: 5}, api.Event{Kind: 10}, api.Event{Kind: 9, List: []int{0}})
}

// P18.2: the words of traps and of counters.
func TestNumWords(t *testing.T) {
	for word, n := range map[string]int{"divide": api.TrapDivide, "index": api.TrapIndex, "fill": api.TrapFill, "nil": api.TrapNil, "wrong": api.TrapWrong} {
		holdText(t, "trap 0 "+word+"\n", api.Event{Kind: api.EvTrap, Num: n})
		holdText(t, "trap 31 "+word+"\n", api.Event{Kind: api.EvTrap, P: 31, Num: n})
	}
	for word, n := range map[string]int{"procs": api.SpentProcs, "live": api.SpentLive, "chans": api.SpentChans, "ticks": api.SpentTicks, "cells": api.SpentCells, "depth": api.SpentDepth} {
		holdText(t, "spent 0 "+word+"\n", api.Event{Kind: api.EvSpent, Num: n})
		holdText(t, "spent 31 "+word+"\n", api.Event{Kind: api.EvSpent, P: 31, Num: n})
	}
}

// P18.2: numbers are written as they are, also the greatest and the least.
func TestGreatNumbers(t *testing.T) {
	const most, least = "9223372036854775807", "-9223372036854775808"
	holdText(t, "born "+most+" "+most+"\n", api.Event{Kind: api.EvBorn, P: math.MaxInt, Q: math.MaxInt})
	holdText(t, "meet "+strings.Repeat(most+" ", 4)+most+"\n", api.Event{Kind: api.EvMeet, P: math.MaxInt, I: math.MaxInt, Q: math.MaxInt, J: math.MaxInt, Chan: math.MaxInt})
	holdText(t, "in 0 0 "+most+"\nin 1 2 "+least+"\n", api.Event{Kind: api.EvIn, Num: math.MaxInt}, api.Event{Kind: api.EvIn, Q: 1, J: 2, Num: math.MinInt})
	holdText(t, "out 0 0 "+most+"\nout 1 2 "+least+"\n", api.Event{Kind: api.EvOut, Num: math.MaxInt}, api.Event{Kind: api.EvOut, P: 1, I: 2, Num: math.MinInt})
	holdText(t, "exit "+most+"\nreap "+most+"\ntrap "+most+" nil\nspent "+most+" ticks\n", api.Event{Kind: api.EvExit, P: math.MaxInt}, api.Event{Kind: api.EvReap, P: math.MaxInt}, api.Event{Kind: api.EvTrap, P: math.MaxInt, Num: 4}, api.Event{Kind: api.EvSpent, P: math.MaxInt, Num: 4})
	holdText(t, "probe 9 10 "+most+"\n", api.Event{Kind: api.EvProbe, List: []int{9, 10, math.MaxInt}})
}

// P18.2: Lists of none and of many.
func TestPrintLists(t *testing.T) {
	for _, list := range [][]int{nil, {}, make([]int, 0, 3)} {
		holdText(t, "probe\nidle\nprobe\n", api.Event{Kind: api.EvProbe, List: list}, api.Event{Kind: api.EvIdle, List: list}, api.Event{Kind: api.EvProbe, List: list})
	}
	for _, many := range []int{1, 2, 3, 100, 4096, 10000} {
		list := rising(3, 7, many)
		text := strings.Trim(fmt.Sprint(list), "[]")
		holdText(t, "skip\nprobe "+text+"\nexit 1\n", api.Event{Kind: api.EvSkip}, api.Event{Kind: api.EvProbe, List: list}, api.Event{Kind: api.EvExit, P: 1})
	}
}

// P18.2: no events, and one that is refused at each place.
func TestPrintRefuses(t *testing.T) {
	for _, l := range [][]api.Event{nil, {}, make([]api.Event, 0, 4)} {
		if text, code := trace.Print(l); text != "" || code != api.OK {
			t.Errorf("%q, %d", text, code)
		}
	}
	bad := []api.Event{{}, {Kind: 12}, {Kind: -1}, {Kind: api.EvExit, P: -1}, {Kind: api.EvIdle, P: 1}, {Kind: api.EvBorn, I: 1}, {Kind: api.EvTrap}, {Kind: api.EvTrap, Num: 6}, {Kind: api.EvSpent}, {Kind: api.EvSpent, Num: 7}, {Kind: api.EvProbe, List: []int{1, 0}}, {Kind: api.EvSkip, List: []int{1}}, {Kind: api.EvProbe, Num: 1}}
	var good []api.Event
	for _, s := range samples {
		good = append(good, s.event)
	}
	for _, one := range bad {
		for at := range len(good) + 1 {
			l := slices.Insert(slices.Clone(good), at, one)
			if text, code := trace.Print(l); text != "" || code != api.ErrTraceForm {
				t.Errorf("%v: %q, %d", l, text, code)
			}
			if code := holdPrint(t, l[:at]); code != api.OK {
				t.Errorf("%v: %d", l[:at], code)
			}
		}
	}
	many := slices.Repeat(good, 1000)
	if code := holdPrint(t, many); code != api.OK {
		t.Error(code)
	}
	many[len(many)-1] = api.Event{}
	if code := holdPrint(t, many); code != api.ErrTraceForm {
		t.Error(code)
	}
}
