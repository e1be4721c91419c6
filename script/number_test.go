package script_test

import (
	"math"
	"strconv"
	"strings"
	"testing"

	"squint/api"
	"squint/script"
)

// wrongNumbers are words that are no numbers; the empty one is what stands beside a blank too many.
var wrongNumbers = []string{
	"", "-0", "00", "000", "+0", "+1", "+", "-", "--", "--1", "-+1", "+-1", "1-", "-1-", "01", "007", "-01", "-00", "0-", "0x1", "0x", "0b1", "0o7", "1_0", "_1", "1_", "1.0", "1.", ".1", "1e3", "1,", "x", "1x", "x1", "nil", "true", "inf", "NaN",
	"9223372036854775808", "-9223372036854775809", "18446744073709551615", "18446744073709551616", "18446744073709551617", "-18446744073709551616", "-18446744073709551615", "10000000000000000000", "09223372036854775807", "-09223372036854775808", "92233720368547758070", "-92233720368547758080",
	"340282366920938463463374607431768211456", "340282366920938463463374607431768211457",
	"\x00", "1\x00", "\x001", "\xff", "1\xff", "\xc3", "\u0661", "\uff11", "1\u0661", "\u22121", "1\r", "\r", "1\t", "\t1", "1\v", "1\u00a0", "1\u2028", "/", ":", "1/", "1:", ";", "\x7f", "²",
}

var rightNumbers = map[string]int{
	"0": 0, "1": 1, "-1": -1, "9": 9, "-9": -9, "10": 10, "-10": -10, "100": 100, "4096": 4096, "1234567890": 1234567890, "-1234567890": -1234567890,
	"2147483647": math.MaxInt32, "2147483648": math.MaxInt32 + 1, "-2147483648": math.MinInt32, "-2147483649": math.MinInt32 - 1, "4294967296": 1 << 32,
	"999999999999999999": 999999999999999999, "1000000000000000000": 1000000000000000000, "-1000000000000000000": -1000000000000000000,
	"9223372036854775807": math.MaxInt, "9223372036854775806": math.MaxInt - 1, "-9223372036854775807": math.MinInt + 1, "-9223372036854775808": math.MinInt,
}

// TestNumbers: each number, right and wrong, at each place that has one.
func TestNumbers(t *testing.T) {
	for text, n := range rightNumbers {
		for k := range 7 {
			list := strings.Split("1 2 3 4 5 6 7", " ")
			list[k] = text
			want := [7]int{1, 2, 3, 4, 5, 6, 7}
			want[k] = n
			holdScript(t, "limits "+strings.Join(list, " ")+"\nkeep\n", api.Script{Limits: limitsOf(want)})
		}
		for line, p := range map[string]api.Pick{
			"step " + text: {Kind: api.PickStep, N: n}, "out " + text: {Kind: api.PickOut, N: n},
			"in " + text + " 5": {Kind: api.PickIn, N: n, V: 5}, "in 5 " + text: {Kind: api.PickIn, N: 5, V: n}, "in " + text + " " + text: {Kind: api.PickIn, N: n, V: n},
		} {
			holdScript(t, head+line+"\n", api.Script{Limits: nines, Picks: []api.Pick{p}})
		}
	}
	for _, text := range wrongNumbers {
		for k := range 7 {
			list := strings.Split("1 2 3 4 5 6 7", " ")
			list[k] = text
			hold(t, field("limits "+strings.Join(list, " ")+"\nkeep\n", 1))
		}
		hold(t, field(head+"step "+text+"\n", 3), field(head+"out "+text+"\n", 3), field(head+"in "+text+" 5\n", 3), field(head+"in 5 "+text+"\n", 3), field(head+"in "+text+" "+text+"\n", 3),
			field(head+"probe "+text+"\n", 3), field(first+"keep "+text+"\n", 2), field(first+"reap "+text+"\n", 2))
	}
}

func limitsOf(n [7]int) api.Limits {
	return api.Limits{Procs: n[0], Live: n[1], Chans: n[2], Ticks: n[3], Cells: n[4], Depth: n[5], Nest: n[6]}
}

// holdScript holds a text and its script against each other, both ways.
func holdScript(t *testing.T, text string, want api.Script) {
	t.Helper()
	if s, line, code := script.Parse(text); !same(s, want) || line != 0 || code != api.OK {
		t.Errorf("%q: %v, %d, %d", text, s, line, code)
	}
	if again, code := script.Print(want); again != text || code != api.OK {
		t.Errorf("%v: %q, %d, not %q", want, again, code, text)
	}
}

// TestEachByte: each byte alone, and beside a digit, where a number is wanted.
func TestEachByte(t *testing.T) {
	for b := range 256 {
		one := string([]byte{byte(b)})
		isDigit := strings.Contains("0123456789", one)
		for _, text := range []string{one, "5" + one, one + "5", "5" + one + "5"} {
			line := head + "step " + text + "\n"
			want := field(line, 3)
			// A byte 10 ends the line, and what stands behind it is another one.
			if b == '\n' {
				want = map[string]told{"\n": field(line, 3), "5\n": word(line, 4), "\n5": field(line, 3), "5\n5": word(line, 4)}[text]
			}
			if isDigit && text != "05" || text == "-5" {
				want = right(line)
			}
			hold(t, want)
		}
	}
}

// TestLongNumbers: numbers of very many digits, and of very many zeros ahead.
func TestLongNumbers(t *testing.T) {
	const digits = 1 << 20
	for _, text := range []string{strings.Repeat("9", digits), "-" + strings.Repeat("9", digits), "1" + strings.Repeat("0", digits), strings.Repeat("0", digits), strings.Repeat("0", digits) + "1", strings.Repeat("-", digits), strings.Repeat("x", digits)} {
		for _, line := range []string{"step " + text, "out " + text, "in 1 " + text, "in " + text + " 1", "probe " + text} {
			if s, at, code := script.Parse(head + line + "\n"); !same(s, api.Script{}) || at != 3 || code != api.ErrScriptField {
				t.Error(line[:10], at, code)
			}
		}
		if _, at, code := script.Parse("limits 1 2 3 4 5 6 " + text + "\n"); at != 1 || code != api.ErrScriptField {
			t.Error(text[:10], at, code)
		}
		if _, at, code := script.Parse(head + text + " 1\n"); at != 3 || code != api.ErrScriptWord {
			t.Error(text[:10], at, code)
		}
	}
}

// TestPowers: numbers of each length, round the powers of 2 and of 10.
func TestPowers(t *testing.T) {
	var list []int
	for k := range 64 {
		for d := -2; d <= 2; d++ {
			list = append(list, 1<<k+d, -1<<k+d)
		}
	}
	for p := 1; p < math.MaxInt/10; p *= 10 {
		for d := -2; d <= 2; d++ {
			list = append(list, p+d, -p+d, 9*p+d)
		}
	}
	for _, n := range list {
		text := strconv.Itoa(n)
		holdScript(t, head+"step "+text+"\nin "+text+" "+text+"\n", api.Script{Limits: nines, Picks: []api.Pick{{Kind: api.PickStep, N: n}, {Kind: api.PickIn, N: n, V: n}}})
		hold(t, field(head+"step 0"+text+"\n", 3), field(head+"step +"+text+"\n", 3))
	}
}
