package script_test

import (
	"math"
	"math/rand/v2"
	"regexp"
	"strings"
	"testing"

	"squint/api"
	"squint/script"
)

// whole is the form of all texts of scripts, but for the bounds of ints and the number of picks.
var whole = regexp.MustCompile(`\Alimits(?: ` + numberForm + `){7}\n(?:keep|reap)\n(?:step ` + numberForm + `\n|in ` + numberForm + ` ` + numberForm + `\n|out ` + numberForm + `\n|probe\n)*\z`)

// TestAllPieces: all texts of a few pieces, behind nothing, behind the first line, and behind the second one.
func TestAllPieces(t *testing.T) {
	pieces := []string{"limits 1 2 3 4 5 6", "keep", "reap\n", "step ", "in", "out 3", "probe", "probe\n", " ", "\n", "0", "-", "7"}
	for _, ahead := range []string{"", first, head, head + "in 3 -4\n"} {
		taken := 0
		var all func(text string, left int)
		all = func(text string, left int) {
			code := holdParse(t, text)
			if (code == api.OK) != whole.MatchString(text) {
				t.Fatalf("%q: %d", text, code)
			}
			if code == api.OK {
				taken++
			}
			for k := 0; left > 0 && k < len(pieces); k++ {
				all(text+pieces[k], left-1)
			}
		}
		all(ahead, 5)
		// Of fewer than this nothing much would have been held.
		if want := map[string]int{"": 1, first: 20, head: 100, head + "in 3 -4\n": 100}[ahead]; taken < want {
			t.Errorf("behind %q just %d are scripts", ahead, taken)
		}
	}
}

func someInt(r *rand.Rand) int {
	switch r.IntN(4) {
	case 0:
		return r.IntN(12)
	case 1:
		return -r.IntN(12)
	case 2:
		return int(r.Uint64()) >> r.IntN(64)
	}
	return [...]int{math.MaxInt, math.MinInt, math.MaxInt - 1, math.MinInt + 1, 0, 1}[r.IntN(6)]
}

func someScript(r *rand.Rand, picks int) api.Script {
	s := api.Script{Reap: r.IntN(2) == 0}
	var n [7]int
	for k := range n {
		n[k] = someInt(r)
	}
	s.Limits = limitsOf(n)
	for range picks {
		p := api.Pick{Kind: 1 + r.IntN(4)}
		if p.Kind != api.PickProbe {
			p.N = someInt(r)
		}
		if p.Kind == api.PickIn {
			p.V = someInt(r)
		}
		s.Picks = append(s.Picks, p)
	}
	return s
}

// TestBothWays: Parse of what Print wrote is the script, and Print of what Parse read the text.
func TestBothWays(t *testing.T) {
	r := rand.New(rand.NewPCG(17, 3))
	for range 3000 {
		s := someScript(r, r.IntN(20))
		if code := holdPrint(t, s); code != api.OK {
			t.Fatal(s, code)
		}
		text, _ := script.Print(s)
		if code := holdParse(t, text); code != api.OK || !whole.MatchString(text) {
			t.Fatal(text, code)
		}
	}
	for _, picks := range []int{4095, 4096, 4097} {
		if code := holdPrint(t, someScript(r, picks)); (code == api.OK) != (picks <= 4096) {
			t.Fatal(picks, code)
		}
	}
}

// spoilt is a text with a few bytes taken out, put in, changed, or a piece doubled.
func spoilt(r *rand.Rand, text string) string {
	const bytes = " \n0123456789-+xskrpion\r\t\x00\xff"
	for range 1 + r.IntN(3) {
		at := r.IntN(len(text) + 1)
		to := at + r.IntN(min(8, len(text)-at+1))
		one := string(bytes[r.IntN(len(bytes))])
		switch r.IntN(5) {
		case 0:
			text = text[:at] + one + text[at:]
		case 1:
			text = text[:at] + text[to:]
		case 2:
			text = text[:to] + text[at:]
		case 3:
			text = text[:at]
		default:
			if at < len(text) {
				text = text[:at] + one + text[at+1:]
			}
		}
	}
	return text
}

// TestSpoilt: texts that are nearly those of scripts.
func TestSpoilt(t *testing.T) {
	r := rand.New(rand.NewPCG(17, 1))
	seen := map[api.Errno]int{}
	for range 60000 {
		text, _ := script.Print(someScript(r, r.IntN(8)))
		seen[holdParse(t, spoilt(r, text))]++
	}
	if seen[api.OK] < 1000 || seen[api.ErrScriptWord] < 1000 || seen[api.ErrScriptField] < 1000 {
		t.Error(seen)
	}
}

// TestSpoiltMany: likewise round MaxPicks picks.
func TestSpoiltMany(t *testing.T) {
	r := rand.New(rand.NewPCG(17, 2))
	seen := map[api.Errno]int{}
	long := head + strings.Repeat("probe\n", api.MaxPicks-3)
	for range 300 {
		text, _ := script.Print(someScript(r, r.IntN(7)))
		tail := strings.TrimPrefix(strings.SplitN(text, "\n", 2)[1], "keep\n")
		tail = strings.TrimPrefix(tail, "reap\n")
		if r.IntN(2) == 0 {
			tail = spoilt(r, tail)
		}
		seen[holdParse(t, long+tail)]++
	}
	if seen[api.OK] < 20 || seen[api.ErrScriptWord] < 20 || seen[api.ErrScriptField] < 20 || seen[api.ErrScriptMany] < 20 {
		t.Error(seen)
	}
}

// TestSpoiltPicks: scripts of which Print refuses some.
func TestSpoiltPicks(t *testing.T) {
	r := rand.New(rand.NewPCG(17, 4))
	seen := map[api.Errno]int{}
	for range 20000 {
		s := someScript(r, 1+r.IntN(5))
		p := &s.Picks[r.IntN(len(s.Picks))]
		switch r.IntN(6) {
		case 0:
			p.Kind = r.IntN(8) - 2
		case 1:
			p.N = someInt(r)
		case 2:
			p.V = someInt(r)
		}
		seen[holdPrint(t, s)]++
	}
	if seen[api.OK] < 1000 || seen[api.ErrScriptField] < 1000 {
		t.Error(seen)
	}
}

// FuzzParse holds whatever bytes against the second reading.
func FuzzParse(f *testing.F) {
	for _, text := range []string{"", first, head, head + "step 1\nin 2 -3\nout 4\nprobe\n", head + "step 00\n", head + "\n"} {
		f.Add(text)
	}
	f.Fuzz(func(t *testing.T, text string) { holdParse(t, text) })
}
