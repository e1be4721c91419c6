package trace_test

import (
	"strings"
	"testing"

	"squint/api"
	"squint/trace"
)

// told is what Parse tells of a text: the line that is wrong, or 0.
type told struct {
	text string
	line int
}

func wrong(text string, line int) told { return told{text, line} }
func right(text string) told           { return told{text, 0} }

func hold(t *testing.T, list ...told) {
	t.Helper()
	for _, k := range list {
		want := api.ErrTraceForm
		if k.line == 0 {
			want = api.OK
		}
		l, line, code := trace.Parse(k.text)
		if line != k.line || code != want {
			t.Errorf("%.200q: %d, %d, not %d, %d", k.text, line, code, k.line, want)
		}
		if code != api.OK && len(l) != 0 {
			t.Errorf("%.200q: %v beside an error", k.text, l)
		}
		holdParse(t, k.text)
	}
}

// around holds a line that is no event's alone, and first, in the midst and last of others.
func around(t *testing.T, line string) {
	t.Helper()
	hold(t, wrong(line+"\n", 1), wrong(line+"\nidle\n", 1), wrong("idle\n"+line+"\nidle\n", 2), wrong("idle\nborn 0 1\nprobe\n"+line+"\n", 4), wrong(line+"\n"+line+"\n", 1))
}

// P18.3: nothing, empty lines, lines that are not ended.
func TestEnds(t *testing.T) {
	hold(t, right(""), wrong("\n", 1), wrong("\n\n", 1), wrong(" ", 1), wrong(" \n", 1), wrong("\nidle\n", 1), wrong("idle\n\n", 2), wrong("idle\n\nidle\n", 2), wrong("idle\nskip\n\n\nidle\n", 3),
		wrong("idle", 1), wrong("idle\nskip", 2), wrong("idle\nskip\nskip\nskip", 4), wrong("idle\n ", 2), wrong("idle\nx", 2), wrong("x", 1), wrong("idle\n\x00", 2), wrong("idle\n\xff", 2), wrong("idle\n\xe2\x80", 2))
	if l, line, code := trace.Parse(""); len(l) != 0 || line != 0 || code != api.OK {
		t.Error(l, line, code)
	}
	text := ""
	for _, s := range samples {
		text += s.line + "\n"
	}
	for k := range len(text) + 1 {
		want := right(text[:k])
		if k > 0 && text[k-1] != '\n' {
			want = wrong(text[:k], strings.Count(text[:k], "\n")+1)
		}
		hold(t, want)
	}
}

// P18.3: of two lines that are wrong the first one is told.
func TestFirstLine(t *testing.T) {
	hold(t, wrong("x\ny\n", 1), wrong("idle\nx\ny\n", 2), wrong("x\nidle", 1), wrong("idle\nx\nidle", 2), wrong("idle\nidle\n\nx\nidle", 3), wrong("exit 0\nexit 00\nexit 000\n", 2), wrong("probe 1 0\nprobe", 1))
	for _, ahead := range []int{0, 1, 2, 9, 10, 1000, 70000} {
		for _, bad := range []string{"x\n", "\n", "x", "idle", "exit -1\nidle\n", "trap 0 procs\n\n"} {
			text := strings.Repeat("skip\n", ahead) + bad
			if l, line, code := trace.Parse(text); len(l) != 0 || line != ahead+1 || code != api.ErrTraceForm {
				t.Errorf("%d lines and %q: %d, %d, %d", ahead, bad, len(l), line, code)
			}
		}
	}
}

// P18.3: words too few and too many, of each kind.
func TestHowMany(t *testing.T) {
	for _, s := range samples {
		if s.event.Kind == api.EvProbe {
			continue
		}
		words := strings.Split(s.line, " ")
		for k := range len(words) {
			around(t, strings.Join(words[:k], " "))
			around(t, strings.Join(append(append([]string{}, words[:k]...), words[k+1:]...), " "))
			around(t, strings.Join(append(append([]string{}, words[:k+1]...), words[k:]...), " "))
			around(t, strings.Join(append(append(append([]string{}, words[:k+1]...), "0"), words[k+1:]...), " "))
		}
		around(t, s.line+" 0")
		around(t, s.line+" 1 2")
		around(t, s.line+" nil")
		around(t, s.line+" procs")
		around(t, s.line+" idle")
		around(t, s.line+s.line)
		around(t, s.line+" "+s.line)
	}
	hold(t, right("probe\n"), right("probe 0\n"), right("probe 1 2\n"), right("probe 1 2 3 4 5 6 7\n"))
	for k := range 12 {
		for _, w := range []struct {
			word, tail string
			many       int
		}{{"born", "", 2}, {"meet", "", 5}, {"in", "", 3}, {"out", "", 3}, {"exit", "", 1}, {"trap", " nil", 1}, {"skip", "", 0}, {"idle", "", 0}, {"reap", "", 1}, {"spent", " live", 1}} {
			text := w.word + strings.Repeat(" 7", k) + w.tail
			if k == w.many {
				hold(t, right(text+"\n"))
			} else {
				around(t, text)
			}
		}
	}
}

// P18.3: a blank too many at each place, and another byte in the place of a blank.
func TestBlanks(t *testing.T) {
	for _, s := range samples {
		around(t, " "+s.line)
		around(t, "  "+s.line)
		around(t, s.line+" ")
		around(t, s.line+"  ")
		around(t, s.line+"\r")
		around(t, s.line+"\t")
		for k := range len(s.line) {
			// A probe's numbers, cut or joined, may be another probe's.
			if line := s.line[:k] + " " + s.line[k:]; line == "probe 0 1 7 18" {
				hold(t, right(line+"\n"))
			} else {
				around(t, line)
			}
			if s.line[k] != ' ' {
				continue
			}
			for _, other := range []string{"\t", "\r", "\v", "\x00", "\u00a0", "\u2028", "\u2003", "\x85", "_", ","} {
				around(t, s.line[:k]+other+s.line[k+1:])
			}
			if joined := s.line[:k] + s.line[k+1:]; joined == "probe 0 1718" {
				hold(t, right(joined+"\n"))
			} else {
				around(t, joined)
			}
			cut := s.line[:k] + "\n" + s.line[k+1:] + "\n"
			if s.event.Kind == api.EvProbe {
				hold(t, wrong(cut, 2))
			} else {
				hold(t, wrong(cut, 1))
			}
		}
	}
	around(t, " ")
	around(t, "  ")
	around(t, "")
	around(t, strings.Repeat(" ", 100000))
	around(t, "probe"+strings.Repeat(" ", 100000))
	around(t, "probe 1  2")
	around(t, "probe  1 2")
	around(t, "probe 1 2 ")
	around(t, "probe ")
}

// P18.3: the word of another kind, a piece of one, one and more, one in other letters, one too many letters.
func TestOtherWords(t *testing.T) {
	for _, s := range samples {
		word, rest, _ := strings.Cut(s.line, " ")
		rest = strings.TrimSuffix(" "+rest, " ")
		for _, other := range samples {
			w := strings.Split(other.line, " ")[0]
			line := w + rest + "\n"
			// Some lines have the same numbers behind their words.
			if _, ok := readLine(w + rest); ok {
				if l, _, code := trace.Parse(line); len(l) != 1 || l[0].Kind != other.event.Kind || code != api.OK {
					t.Error(line, l, code)
				}
			} else {
				around(t, w+rest)
			}
		}
		for mask := 1; mask < 1<<len(word); mask++ {
			great := []byte(word)
			for k := range great {
				if mask>>k&1 == 1 {
					great[k] -= 'a' - 'A'
				}
			}
			around(t, string(great)+rest)
		}
		for k := range len(word) {
			around(t, word[:k]+rest)
			around(t, word[k+1:]+rest)
			around(t, word[:k]+word[k+1:]+rest)
		}
		for _, w := range []string{word + "s", word + word, "x" + word, word + "0", "0" + word, "-" + word, "ſ" + word[1:], word + "\u0301", "\ufeff" + word, "events", "0", "1", "-1", "6"} {
			around(t, w+rest)
		}
	}
	around(t, "ſkip")
	around(t, "ｉdle")
	around(t, "trap")
	around(t, "born0 1")
}

// TestKindsByWords: which kind each word is of.
func TestKindsByWords(t *testing.T) {
	for line, kind := range map[string]int{"born 1 2": 1, "meet 1 2 3 4 5": 2, "in 1 2 3": 3, "out 1 2 3": 4, "exit 1": 5, "trap 1 nil": 6, "skip": 7, "idle": 8, "probe 1": 9, "reap 1": 10, "spent 1 live": 11} {
		l, at, code := trace.Parse(line + "\n")
		if len(l) != 1 || l[0].Kind != kind || at != 0 || code != api.OK {
			t.Error(line, l, at, code)
		}
	}
}

// P18.3: the words for Num, right and wrong.
func TestWordsOfNum(t *testing.T) {
	for _, w := range append(append([]string{}, trapWords...), spentWords...) {
		for _, kind := range []string{"trap", "spent"} {
			for _, p := range []string{"0", "5", "9223372036854775807"} {
				isTrap := kind == "trap"
				line := kind + " " + p + " " + w
				if isTrap == (strings.Index(" divide index fill nil wrong ", " "+w+" ") >= 0) {
					hold(t, right(line+"\n"))
				} else {
					around(t, line)
				}
			}
			for k := range len(w) {
				around(t, kind+" 0 "+w[:k])
				around(t, kind+" 0 "+w[k+1:])
				around(t, kind+" 0 "+w[:k]+string(w[k]-'a'+'A')+w[k+1:])
				around(t, kind+" 0 "+w[:k]+"\xff"+w[k+1:])
				around(t, kind+" 0 "+w[:k]+"\x00"+w[k:])
			}
			around(t, kind+" "+w+" 0")
			around(t, kind+" "+w)
			around(t, kind+" 0 "+w+" ")
			around(t, kind+" 0 "+w+" 0")
			around(t, kind+" 0 "+w+" "+w)
			around(t, kind+" 0 "+w+"s")
			around(t, kind+" 0 "+w+w)
			around(t, kind+" -1 "+w)
			around(t, kind+" 00 "+w)
		}
	}
	for _, w := range []string{"0", "1", "2", "5", "6", "7", "-1", "zero", "none", "Index", "INDEX", "procs live", "divide index"} {
		around(t, "trap 0 "+w)
		around(t, "spent 0 "+w)
	}
}

// P18.3: which Lists a probe's line may have.
func TestParseLists(t *testing.T) {
	hold(t, right("probe\n"), right("probe 0\n"), right("probe 5\n"), right("probe 0 1\n"), right("probe 9 10 11 100\n"), right("probe 9223372036854775806 9223372036854775807\n"))
	for _, line := range []string{"probe 1 1", "probe 2 1", "probe 10 9", "probe 0 0", "probe -1", "probe -1 0", "probe 0 -1", "probe 1 2 2", "probe 1 3 2", "probe 3 1 2", "probe 1 1 2", "probe 9223372036854775807 9223372036854775807", "probe 9223372036854775807 0", "probe -9223372036854775808", "probe 0 9223372036854775808", "probe 1 x", "probe x 1", "probe 1 x 3", "probe 1 02", "probe nil", "probe 1 index", "probe 1, 2", "probe [1 2]", "probe []"} {
		around(t, line)
	}
	list := make([]string, 5000)
	for k := range list {
		list[k] = strings.Repeat("1", k%18+1)
	}
	around(t, "probe "+strings.Join(list, " "))
}
