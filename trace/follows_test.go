package trace_test

import (
	"math"
	"math/rand/v2"
	"slices"
	"strings"
	"testing"

	"squint/api"
	"squint/trace"
)

// TestAllPieces: all texts of a few pieces, held against the second reading.
func TestAllPieces(t *testing.T) {
	pieces := []string{"born", "meet 1 2 3", "in 0", "out 4 5", "exit", "trap 6", "skip", "idle\n", "probe", "reap", "spent 0", " ", " 0", " 1", "-", "2", " nil", " live", "\n"}
	taken := map[int]int{}
	var all func(text string, left int)
	all = func(text string, left int) {
		if holdParse(t, text) == api.OK {
			l, _, _ := trace.Parse(text)
			for _, e := range l {
				taken[e.Kind]++
			}
		}
		for k := 0; left > 0 && k < len(pieces); k++ {
			all(text+pieces[k], left-1)
		}
	}
	all("", 5)
	all("meet 7 8", 4)
	// Of fewer than this nothing much would have been held.
	for kind := 1; kind <= 11; kind++ {
		if taken[kind] < 10 {
			t.Errorf("of the kind %d just %d were read", kind, taken[kind])
		}
	}
}

// somePlace is a number from 0 on.
func somePlace(r *rand.Rand) int {
	switch r.IntN(4) {
	case 0:
		return int(r.Uint64()>>1) >> r.IntN(63)
	case 1:
		return [...]int{math.MaxInt, math.MaxInt - 1, 0, 1, 9, 10}[r.IntN(6)]
	}
	return r.IntN(12)
}

func someInt(r *rand.Rand) int {
	n := somePlace(r)
	if r.IntN(2) == 0 {
		return ^n
	}
	return n
}

func someList(r *rand.Rand) []int {
	var list []int
	for range r.IntN(6) * r.IntN(4) {
		list = append(list, somePlace(r))
	}
	return slices.Compact(slices.Sorted(slices.Values(list)))
}

// someEvent is one that Check takes.
func someEvent(r *rand.Rand) api.Event {
	s := samples[r.IntN(len(samples))]
	e := s.event
	for _, f := range s.from0 {
		*fields(&e)[f] = somePlace(r)
	}
	switch e.Kind {
	case api.EvIn, api.EvOut:
		e.Num = someInt(r)
	case api.EvTrap:
		e.Num = 1 + r.IntN(5)
	case api.EvSpent:
		e.Num = 1 + r.IntN(6)
	case api.EvProbe:
		e.List = someList(r)
	}
	return e
}

func someEvents(r *rand.Rand, many int) []api.Event {
	var l []api.Event
	for range many {
		l = append(l, someEvent(r))
	}
	return l
}

// P18.4: Parse of what Print wrote are the events, and Print of what Parse read is the text.
func TestBothWays(t *testing.T) {
	r := rand.New(rand.NewPCG(18, 4))
	for range 5000 {
		l := someEvents(r, r.IntN(20))
		if code := holdPrint(t, l); code != api.OK {
			t.Fatal(l, code)
		}
		text, _ := trace.Print(l)
		if code := holdParse(t, text); code != api.OK {
			t.Fatal(text, code)
		}
	}
	for _, many := range []int{0, 1, 5000} {
		if code := holdPrint(t, someEvents(r, many)); code != api.OK {
			t.Fatal(many, code)
		}
	}
}

// P18.4: no two lists have one text.
func TestNoTwo(t *testing.T) {
	r := rand.New(rand.NewPCG(18, 5))
	seen := map[string][]api.Event{}
	twice := 0
	for range 40000 {
		l := someEvents(r, r.IntN(4))
		text, _ := trace.Print(l)
		if other, ok := seen[text]; ok {
			twice++
			if !sameAll(l, other) {
				t.Fatalf("%q: %v and %v", text, l, other)
			}
		}
		seen[text] = l
	}
	if twice < 1000 {
		t.Error("so few lists were met twice:", twice)
	}
}

// P18.5: the text of two lists is the one's text and the other's; and what Parse reads of both texts are the events of both.
func TestJoined(t *testing.T) {
	r := rand.New(rand.NewPCG(18, 6))
	for k := range 5000 {
		one, other := someEvents(r, r.IntN(6)), someEvents(r, r.IntN(6))
		// Also lists of which one or the other is refused.
		spoilOne, spoilOther := k%5 == 1, k%5 == 2
		if spoilOne {
			one = append(one, api.Event{Kind: 12})
		}
		if spoilOther {
			other = append(other, api.Event{Kind: api.EvProbe, List: []int{1, 1}})
		}
		oneText, oneCode := trace.Print(one)
		otherText, otherCode := trace.Print(other)
		bothText, bothCode := trace.Print(slices.Concat(one, other))
		if spoilOne || spoilOther {
			if oneCode == api.OK == spoilOne || otherCode == api.OK == spoilOther || bothText != "" || bothCode != api.ErrTraceForm {
				t.Fatal(one, other, oneCode, otherCode, bothText, bothCode)
			}
			continue
		}
		if bothText != oneText+otherText || oneCode != api.OK || otherCode != api.OK || bothCode != api.OK {
			t.Fatalf("%v and %v: %q, not %q and %q", one, other, bothText, oneText, otherText)
		}
		if l, line, code := trace.Parse(oneText + otherText); !sameAll(l, slices.Concat(one, other)) || line != 0 || code != api.OK {
			t.Fatalf("%q and %q: %v, %d, %d", oneText, otherText, l, line, code)
		}
		if oneText != "" && otherText != "" {
			hold(t, wrong(strings.TrimSuffix(oneText, "\n")+otherText, len(one)), wrong(oneText+"\n"+otherText, len(one)+1))
		}
	}
}

// spoilt is a text with a few bytes taken out, put in, changed, or a piece doubled.
func spoilt(r *rand.Rand, text string) string {
	const bytes = " \n0123456789-+xskrpion\r\t\x00\xff\xc3"
	for range 1 + r.IntN(3) {
		at := r.IntN(len(text) + 1)
		to := at + r.IntN(min(8, len(text)-at+1))
		k := r.IntN(len(bytes))
		one := bytes[k : k+1]
		switch r.IntN(5) {
		case 0:
			text = text[:at] + one + text[at:]
		case 1:
			text = text[:at] + text[to:]
		case 2:
			text = text[:to] + text[at:]
		case 3:
			text = text[:at]
		default:
			if at < len(text) {
				text = text[:at] + one + text[at+1:]
			}
		}
	}
	return text
}

// TestSpoilt: texts that are nearly those of events.
func TestSpoilt(t *testing.T) {
	r := rand.New(rand.NewPCG(18, 1))
	seen := map[api.Errno]int{}
	for range 60000 {
		text, _ := trace.Print(someEvents(r, r.IntN(6)))
		seen[holdParse(t, spoilt(r, text))]++
	}
	if seen[api.OK] < 1000 || seen[api.ErrTraceForm] < 1000 {
		t.Error(seen)
	}
}

// TestSpoiltEvents: events of which Check refuses some.
func TestSpoiltEvents(t *testing.T) {
	r := rand.New(rand.NewPCG(18, 2))
	seen := map[api.Errno]int{}
	for range 30000 {
		l := someEvents(r, 1+r.IntN(5))
		e := &l[r.IntN(len(l))]
		switch r.IntN(6) {
		case 0:
			e.Kind = r.IntN(15) - 2
		case 1, 2:
			*fields(e)[r.IntN(6)] = someInt(r)
		case 3:
			e.List = someList(r)
		case 4:
			e.List = append(slices.Clone(e.List), someInt(r))
		}
		seen[holdPrint(t, l)]++
	}
	if seen[api.OK] < 1000 || seen[api.ErrTraceForm] < 1000 {
		t.Error(seen)
	}
}

// FuzzParse holds whatever bytes against the second reading.
func FuzzParse(f *testing.F) {
	text := ""
	for _, s := range samples {
		f.Add(s.line + "\n")
		text += s.line + "\n"
	}
	for _, seed := range []string{"", "\n", text, "idle", "probe 1 1\n", "exit 00\n", "in 0 0 -9223372036854775809\n"} {
		f.Add(seed)
	}
	f.Fuzz(func(t *testing.T, text string) { holdParse(t, text) })
}
