package script_test

import (
	"strings"
	"testing"

	"squint/api"
	"squint/script"
)

const (
	first = "limits 9 9 9 99 999 9 99\n"
	head  = first + "keep\n"
)

var nines = api.Limits{Procs: 9, Live: 9, Chans: 9, Ticks: 99, Cells: 999, Depth: 9, Nest: 99}

// told is what Parse tells of a text that is refused: its line and its error; or 0 and OK.
type told struct {
	text string
	line int
	code api.Errno
}

func hold(t *testing.T, list ...told) {
	t.Helper()
	for _, k := range list {
		s, line, code := script.Parse(k.text)
		if line != k.line || code != k.code {
			t.Errorf("%q: %d, %d, not %d, %d", k.text, line, code, k.line, k.code)
		}
		if code != api.OK && !same(s, api.Script{}) {
			t.Errorf("%q: %v beside an error", k.text, s)
		}
		holdParse(t, k.text)
	}
}

func word(text string, line int) told  { return told{text, line, api.ErrScriptWord} }
func field(text string, line int) told { return told{text, line, api.ErrScriptField} }
func many(text string, line int) told  { return told{text, line, api.ErrScriptMany} }
func right(text string) told           { return told{text, 0, api.OK} }

func TestExamples(t *testing.T) {
	s, line, code := script.Parse(first + "reap\nstep 0\nin 0 -7\nprobe\n")
	want := api.Script{Limits: nines, Reap: true, Picks: []api.Pick{{Kind: api.PickStep}, {Kind: api.PickIn, V: -7}, {Kind: api.PickProbe}}}
	if !same(s, want) || line != 0 || code != api.OK {
		t.Error(s, line, code)
	}
	s, line, code = script.Parse(head + "in 0 -9223372036854775808\n")
	if len(s.Picks) != 1 || s.Picks[0] != (api.Pick{Kind: api.PickIn, V: -1 << 63}) || line != 0 || code != api.OK {
		t.Error(s, line, code)
	}
	hold(t,
		word("", 1), word(first, 2), field("limits 1 2 3\n", 1),
		word(first+"keep", 2),
		field(head+"step\n", 3), field(head+"step 0 \n", 3), field(head+"step 00\n", 3), field(head+"step -0\n", 3), field(head+"step +1\n", 3), field(head+"probe 1\n", 3),
		word(head+"\n", 3), word(head+" step 0\n", 3), word(head+"Step 0\n", 3), word(head+"keep\n", 3),
		field(head+"in 0 -9223372036854775809\n", 3),
	)
	for _, p := range []api.Pick{{Kind: api.PickStep, V: 1}, {Kind: 5}, {Kind: api.PickProbe, N: 1}} {
		if text, code := script.Print(api.Script{Picks: []api.Pick{p}}); text != "" || code != api.ErrScriptField {
			t.Error(p, text, code)
		}
	}
}

// TestNoPicks: the two lines alone are a script.
func TestNoPicks(t *testing.T) {
	for text, reap := range map[string]bool{"keep\n": false, "reap\n": true} {
		s, line, code := script.Parse(first + text)
		if !same(s, api.Script{Limits: nines, Reap: reap}) || line != 0 || code != api.OK {
			t.Error(text, s, line, code)
		}
		if again, code := script.Print(api.Script{Limits: nines, Reap: reap, Picks: []api.Pick{}}); again != first+text || code != api.OK {
			t.Error(text, again, code)
		}
	}
}

// TestLinesMissing: the first and the second line, missing, not ended, or of another word.
func TestLinesMissing(t *testing.T) {
	hold(t,
		word("", 1), word("limits", 1), word("limits 9", 1), word("limits 9 9 9 99 999 9 99", 1), word("x", 1), word(" ", 1),
		word("\n", 1), word(" \n", 1), word("\n"+head, 1), word("limit 9 9 9 99 999 9 99\n", 1), word("limitss 9 9 9 99 999 9 99\n", 1), word("9 9 9 99 999 9 99\n", 1), word("limits9 9 9 99 999 9 99\n", 1),
		word(first, 2), word(first+"keep", 2), word(first+"reap", 2), word(first+"reap 1", 2), word(first+"x", 2), word(first+" ", 2),
		word(first+"\n", 2), word(first+"\nkeep\n", 2), word(first+" \n", 2), word(first+" keep\n", 2), word(first+"kee\n", 2), word(first+"keeps\n", 2), word(first+"reapkeep\n", 2),
		word(first+"true\n", 2), word(first+"0\n", 2),
	)
}

// rightLines are one of each kind of line, and the places at which it may stand: 1, 2, and 3 for all those behind.
var rightLines = []struct {
	text  string
	place int
}{{first, 1}, {"keep\n", 2}, {"reap\n", 2}, {"step 1\n", 3}, {"in 2 3\n", 3}, {"out 4\n", 3}, {"probe\n", 3}}

// TestPlaces: each kind of line at each place.
func TestPlaces(t *testing.T) {
	ahead := []string{"", first, head, head + "step 0\n", head + "probe\nin 0 0\n"}
	for k, a := range ahead {
		for _, l := range rightLines {
			want := word(a+l.text, k+1)
			if l.place == min(k+1, 3) {
				want = right(a + l.text)
			}
			if a+l.text == first {
				want = word(first, 2)
			}
			hold(t, want)
		}
	}
}

// TestNotEnded: whatever stands in a line, and whatever was right ahead of it, it must be ended.
func TestNotEnded(t *testing.T) {
	text := first + "reap\nstep 0\nin 12 -7\nprobe\nout 5\nprobe\n"
	for k := range len(text) + 1 {
		lines := strings.Count(text[:k], "\n")
		want := word(text[:k], lines+1)
		if lines >= 2 && text[k-1] == '\n' {
			want = right(text[:k])
		}
		hold(t, want)
	}
	hold(t, word(head+"step", 3), word(head+"step x", 3), word(head+"step 0", 3), word(head+"x", 3), word(head+" ", 3), word(head+"step 0\n\x00", 4), word(head+"step 0\nprobe 1", 4))
}

// TestEmptyLines: an empty line at each place, also at the end.
func TestEmptyLines(t *testing.T) {
	hold(t, word("\n", 1), word("\n\n", 1), word(first+"\n", 2), word(first+"\nkeep\n", 2), word(head+"\n", 3), word(head+"\nstep 0\n", 3), word(head+"step 0\n\n", 4), word(head+"step 0\n\nprobe\n", 4))
}

// TestFirstWrong: of two things the first one is told, whichever they are, with the number of its line.
func TestFirstWrong(t *testing.T) {
	hold(t,
		// In two lines.
		field("limits 1\nx\n", 1), word("x\nkeep 1\n", 1), field("limits\n", 1), field("limits\nkeep", 1),
		word(first+"x\nstep\n", 2), field(first+"keep 1\nx\n", 2), field(first+"reap 1\n", 2),
		field(head+"step\nx\n", 3), word(head+"x\nstep\n", 3), field(head+"step\nprobe", 3), word(head+"x\nprobe", 3),
		field(head+"probe\nstep 1\nout x\nin 1\ny\n", 5), word(head+"probe\nstep 1\ny\nin 1\nout x\n", 5),
		word(head+"probe\nprobe\nprobe\nprobe", 6), field(head+"probe\nprobe\nprobe\nprobe \n", 6),
		// In one line.
		word(" \n", 1), word("x 1\n", 1), word("limit 1\n", 1), word(first+"x 1\n", 2), word(first+" keep 1\n", 2),
		word(head+"x \n", 3), word(head+"x 00\n", 3), word(head+"  step 00 x\n", 3), word(head+"steps 00\n", 3), word(head+"limits\n", 3),
		word(head+"step 00", 3), word(head+"x 00", 3), word("limits 1", 1), word(first+"keep 1", 2),
	)
}

// TestMany: MaxPicks picks, and one more, right and wrong in itself.
func TestMany(t *testing.T) {
	if api.MaxPicks != 4096 {
		t.Fatal(api.MaxPicks)
	}
	kinds := []string{"probe\n", "step 1\n", "in 2 -3\n", "out 4\n"}
	most := head
	for k := range api.MaxPicks {
		most += kinds[k%4]
	}
	s, line, code := script.Parse(most)
	if len(s.Picks) != api.MaxPicks || line != 0 || code != api.OK {
		t.Error(len(s.Picks), line, code)
	}
	if s.Picks[4093] != (api.Pick{Kind: api.PickStep, N: 1}) || s.Picks[4094] != (api.Pick{Kind: api.PickIn, N: 2, V: -3}) || s.Picks[4095] != (api.Pick{Kind: api.PickOut, N: 4}) {
		t.Error(s.Picks[4093:])
	}
	if text, code := script.Print(s); text != most || code != api.OK {
		t.Error(code)
	}
	const next = api.MaxPicks + 3
	hold(t, right(most), many(most+"step\n", next), many(most+"probe 1\n", next), many(most+"in 00\n", next), many(most+"out  1\n", next), word(most+"step x", next),
		word(most+"\n", next), word(most+"x\n", next), word(most+"keep\n", next), word(most+"limits 1\n", next), word(most+" step 1\n", next), word(most+"probe", next), word(most+"step 1", next), word(most+"x", next),
		many(most+"probe\nx\n", next), many(most+"probe\nprobe", next), many(most+"probe\nstep x\n", next), word(most+"x\nprobe\n", next))
	for _, k := range kinds {
		hold(t, many(most+k, next), many(most+k+k, next))
	}
	// What is wrong further up is told, though there are too many.
	hold(t, field(strings.Replace(most, "out 4\n", "out 04\n", 1)+"probe\n", 6), word(strings.Replace(most, "out 4\n", "ou 4\n", 1)+"probe\n", 6))
	// The last one of MaxPicks is a pick like all others.
	almost := strings.TrimSuffix(most, "out 4\n")
	hold(t, right(almost), right(almost+"probe\n"), field(almost+"out 04\n", next-1), field(almost+"out\n", next-1), word(almost+"out 4", next-1))
}

// TestBlanks: a blank ahead, behind, and two between words, of each kind of line.
func TestBlanks(t *testing.T) {
	ahead := []string{"", first, head}
	for _, l := range rightLines {
		a, n := ahead[l.place-1], l.place
		text := strings.TrimSuffix(l.text, "\n")
		hold(t, word(a+" "+text+"\n", n), field(a+text+" \n", n), field(a+text+"  \n", n), word(a+"  "+text+" \n", n))
		for k := range len(text) {
			if text[k] == ' ' {
				hold(t, field(a+text[:k]+" "+text[k:]+"\n", n))
			}
		}
		hold(t, word(a+strings.Replace(text+" ", " ", "\t", 1)+"\n", n))
	}
	hold(t, field(head+"step 1\t\n", 3), field(head+"step \t1\n", 3), field(head+"step 1\r\n", 3), field(head+"in 1\t2\n", 3), word(first+"keep\r\n", 2), word(head+"probe\r\n", 3), field("limits 9 9 9 99 999 9 99\r\nkeep\r\n", 1),
		field(head+"step  \n", 3), field(head+"step \n", 3), field(head+"in  1\n", 3), field(head+"in 1 \n", 3), field(head+"probe \n", 3), field("limits \n", 1), field("limits       \n", 1))
}

// TestHowMany: a number too few and one too many, of each kind of line.
func TestHowMany(t *testing.T) {
	for _, k := range []struct {
		ahead, word string
		line, many  int
	}{{"", "limits", 1, 7}, {first, "keep", 2, 0}, {first, "reap", 2, 0}, {head, "step", 3, 1}, {head, "in", 3, 2}, {head, "out", 3, 1}, {head, "probe", 3, 0}} {
		for n := range 12 {
			text := k.ahead + k.word + strings.Repeat(" 5", n) + "\n"
			switch {
			case n != k.many:
				hold(t, field(text, k.line))
			case k.line == 1:
				hold(t, word(text, 2))
			default:
				hold(t, right(text))
			}
		}
	}
}

// TestOtherWords: other letters, great and small, and words that are a piece of one, or one and more.
func TestOtherWords(t *testing.T) {
	ahead := []string{"", first, head}
	for _, l := range rightLines {
		a := ahead[l.place-1]
		w, rest, _ := strings.Cut(strings.TrimSuffix(l.text, "\n")+" ", " ")
		rest = strings.TrimSuffix(" "+rest, " ") + "\n"
		for mask := 1; mask < 1<<len(w); mask++ {
			great := []byte(w)
			for k := range great {
				if mask>>k&1 == 1 {
					great[k] -= 'a' - 'A'
				}
			}
			hold(t, word(a+string(great)+rest, l.place))
		}
		for k := range len(w) {
			hold(t, word(a+w[:k]+rest, l.place), word(a+w[k+1:]+rest, l.place))
			for _, b := range []byte{0, 'x', '-', '0', 0x80, 0xff, '\r', '\t'} {
				hold(t, word(a+w[:k]+string([]byte{b})+w[k+1:]+rest, l.place), word(a+w[:k]+string([]byte{b})+w[k:]+rest, l.place))
			}
		}
		hold(t, word(a+w+w+rest, l.place), word(a+w+"\x00"+rest, l.place), word(a+w+"\xff"+rest, l.place), word(a+"\ufeff"+w+rest, l.place), word(a+w+"\u00a0"+rest, l.place))
	}
	hold(t, word(head+"ſtep 1\n", 3), word(head+"ｉn 1 2\n", 3), word(head+"1\n", 3), word(head+"pick 1\n", 3), word(head+"0 step\n", 3))
}
