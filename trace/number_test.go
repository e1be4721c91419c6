package trace_test

import (
	"math"
	"strconv"
	"strings"
	"testing"

	"squint/api"
	"squint/trace"
)

// wrongNumbers are words that are no numbers; the empty one is what stands beside a blank too many.
var wrongNumbers = []string{
	"", "-0", "00", "000", "+0", "+1", "+", "-", "--", "--1", "-+1", "+-1", "1-", "-1-", "01", "007", "-01", "-00", "0-", "0x1", "0x", "0b1", "0o7", "1_0", "_1", "1_", "1.0", "1.", ".1", "1e3", "1,", "x", "1x", "x1", "nil", "true", "inf", "NaN",
	"9223372036854775808", "-9223372036854775809", "+9223372036854775807", "18446744073709551615", "18446744073709551616", "18446744073709551617", "-18446744073709551616", "-18446744073709551615", "10000000000000000000", "09223372036854775807", "-09223372036854775808", "92233720368547758070", "-92233720368547758080",
	"340282366920938463463374607431768211456", "340282366920938463463374607431768211457",
	"\x00", "1\x00", "\x001", "\xff", "1\xff", "\xff1", "\xc3", "1\xc3", "\xe2\x88", "\xc0\x8a", "1\xc0\x8a", "\u0661", "\uff11", "1\u0661", "\u22121", "1\r", "\r", "1\t", "\t1", "1\v", "1\u00a0", "1\u2028", "/", ":", "1/", "1:", ";", "\x7f", "²", "\ufffd",
}

// places are lines with one place for a number each, written as a `#`; free tells whether it may also be below 0.
var places = []struct {
	line string
	free bool
}{
	{"born # 3", false}, {"born 3 #", false}, {"meet # 1 2 3 4", false}, {"meet 1 # 2 3 4", false}, {"meet 1 2 # 3 4", false}, {"meet 1 2 3 # 4", false}, {"meet 1 2 3 4 #", false},
	{"in # 1 2", false}, {"in 1 # 2", false}, {"in 1 2 #", true}, {"out # 1 2", false}, {"out 1 # 2", false}, {"out 1 2 #", true},
	{"exit #", false}, {"trap # nil", false}, {"probe #", false}, {"reap #", false}, {"spent # live", false},
}

// P18.3: each number, right and wrong, at each place that has one.
func TestNumbers(t *testing.T) {
	for _, n := range []int{0, 1, 9, 10, 100, 1234567890, math.MaxInt32, math.MaxInt32 + 1, 1 << 32, 999999999999999999, 1000000000000000000, math.MaxInt - 1, math.MaxInt} {
		for _, p := range places {
			hold(t, right(strings.Replace(p.line, "#", strconv.Itoa(n), 1)+"\n"))
			if n > 0 && p.free {
				hold(t, right(strings.Replace(p.line, "#", strconv.Itoa(-n), 1)+"\n"))
			}
			if n > 0 && !p.free {
				around(t, strings.Replace(p.line, "#", strconv.Itoa(-n), 1))
			}
		}
	}
	for _, p := range places {
		for _, text := range wrongNumbers {
			around(t, strings.Replace(p.line, "#", text, 1))
		}
		least := strings.Replace(p.line, "#", "-9223372036854775808", 1)
		if p.free {
			hold(t, right(least+"\n"))
		} else {
			around(t, least)
		}
	}
}

// TestWhichField: each number comes into the field that its line has there.
func TestWhichField(t *testing.T) {
	for _, s := range samples {
		l, line, code := trace.Parse(s.line + "\n")
		if len(l) != 1 || !same(l[0], s.event) || line != 0 || code != api.OK {
			t.Errorf("%q: %v, %d, %d", s.line, l, line, code)
		}
	}
	l, _, _ := trace.Parse("probe 3 5 8\nin 1 2 -3\nout 4 5 6\n")
	want := []api.Event{{Kind: api.EvProbe, List: []int{3, 5, 8}}, {Kind: api.EvIn, Q: 1, J: 2, Num: -3}, {Kind: api.EvOut, P: 4, I: 5, Num: 6}}
	if !sameAll(l, want) {
		t.Error(l)
	}
}

// P18.3: each byte alone, and beside a digit, where a number is wanted.
func TestEachByte(t *testing.T) {
	for b := range 256 {
		one := string([]byte{byte(b)})
		for _, p := range places {
			for _, text := range []string{one, "5" + one, one + "5", "5" + one + "5"} {
				holdParse(t, strings.Replace(p.line, "#", text, 1)+"\n")
			}
			line := strings.Replace(p.line, "#", "5"+one, 1)
			switch {
			case strings.Contains("0123456789", one):
				hold(t, right(line+"\n"))
			case b == '\n':
				holdParse(t, line+"\n")
			default:
				around(t, line)
			}
		}
	}
}

// P18.3: bytes that are no letters at each place of each kind's line: put between, and in the place of a letter.
func TestBytesEverywhere(t *testing.T) {
	bytes := []string{"\x00", "\x01", "\t", "\v", "\f", "\r", "\x1f", "\x7f", "\x80", "\x8a", "\xa0", "\xbf", "\xc0", "\xc3", "\xc0\x8a", "\xe2", "\xe2\x80", "\xed\xa0\x80", "\xf0", "\xf4\x90\x80\x80", "\xf8", "\xfe", "\xff", "\xff\xff", "\u0085", "\u00a0", "\u0661", "\u2028", "\ufeff", "\ufffd", "\U0001d7d9", "é"}
	for _, s := range samples {
		for k := range len(s.line) + 1 {
			for _, b := range bytes {
				around(t, s.line[:k]+b+s.line[k:])
				if k < len(s.line) {
					around(t, s.line[:k]+b+s.line[k+1:])
				}
			}
		}
		// Also where a line feed stands: behind it, and in its place.
		for _, b := range bytes {
			hold(t, wrong(s.line+"\n"+b, 2), wrong(s.line+b, 1), wrong(s.line+"\n"+b+"\n", 2), wrong(s.line+b+s.line+"\n", 1))
		}
	}
}

// P18.3: a line feed ends a line, whatever bytes stand ahead of it.
func TestLineFeeds(t *testing.T) {
	for b := range 256 {
		one := string([]byte{byte(b)})
		if b == '\n' {
			hold(t, wrong(one+"\nidle\n", 1))
			continue
		}
		hold(t, wrong("idle\n"+one+"\nidle\n", 2), wrong("idle"+one+"\nskip\n", 1), wrong("idle\nskip\n"+one+"\n"+one+"\n", 3))
	}
	hold(t, wrong("idle\r\nskip\r\n", 1), wrong("idle\n\rskip\n\r", 2), wrong("idle\rskip\n", 1), wrong("idle\u2028skip\n", 1), wrong("idle\u0085skip\n", 1), wrong("\ufeffidle\n", 1))
}

// P18.3: numbers of very many digits, and of very many zeros ahead.
func TestLongNumbers(t *testing.T) {
	const digits = 1 << 20
	for _, text := range []string{strings.Repeat("9", digits), "-" + strings.Repeat("9", digits), "1" + strings.Repeat("0", digits), strings.Repeat("0", digits), strings.Repeat("0", digits) + "1", strings.Repeat("-", digits), strings.Repeat("x", digits)} {
		for _, p := range places {
			if l, at, code := trace.Parse("idle\n" + strings.Replace(p.line, "#", text, 1) + "\nidle\n"); len(l) != 0 || at != 2 || code != api.ErrTraceForm {
				t.Error(p.line, text[:10], at, code)
			}
		}
		for _, line := range []string{text, text + " 1", "trap 0 " + text, "spent 0 " + text, "idle " + text, "probe 1 " + text} {
			if l, at, code := trace.Parse(line + "\n"); len(l) != 0 || at != 1 || code != api.ErrTraceForm {
				t.Error(line[:10], at, code)
			}
		}
	}
}

// TestPowers: numbers of each length, round the powers of 2 and of 10.
func TestPowers(t *testing.T) {
	var list []int
	for k := range 64 {
		for d := -2; d <= 2; d++ {
			list = append(list, 1<<k+d, -1<<k+d)
		}
	}
	for p := 1; p < math.MaxInt/10; p *= 10 {
		for d := -2; d <= 2; d++ {
			list = append(list, p+d, -p+d, 9*p+d)
		}
	}
	for _, n := range list {
		text := strconv.Itoa(n)
		holdText(t, "in 0 0 "+text+"\nout 0 0 "+text+"\n", api.Event{Kind: api.EvIn, Num: n}, api.Event{Kind: api.EvOut, Num: n})
		around(t, "in 0 0 0"+text)
		around(t, "in 0 0 +"+text)
		if n >= 0 {
			holdText(t, "meet "+text+" 0 "+text+" 1 "+text+"\nprobe "+text+"\n", api.Event{Kind: api.EvMeet, P: n, Q: n, J: 1, Chan: n}, api.Event{Kind: api.EvProbe, List: []int{n}})
		} else {
			around(t, "exit "+text)
			around(t, "probe "+text)
		}
	}
}
