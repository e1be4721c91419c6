package scan_test

import (
	"bytes"
	"math"
	"slices"
	"strings"
	"testing"

	"squint/api"
	"squint/scan"
)

// The chapter's lists, once more, with the number that each begins with.
const (
	wordList = "array begin bool case chan else false fill if int len make of prog return select true type val var while"
	signList = "( ) [ ] { } , ; : . = == != < <= > >= + - * / % && || ! <- <-="
)

func texts() map[int]string {
	all := map[int]string{}
	for i, s := range strings.Fields(wordList) {
		all[10+i] = s
	}
	for i, s := range strings.Fields(signList) {
		all[40+i] = s
	}
	return all
}

func name(at, size int) api.Token { return api.Token{Kind: api.TokName, At: at, Len: size} }

func num(at, size, n int) api.Token {
	return api.Token{Kind: api.TokNumber, At: at, Len: size, Num: n}
}

func sign(kind, at, size int) api.Token { return api.Token{Kind: kind, At: at, Len: size} }

func wantTokens(t *testing.T, src string, want ...api.Token) {
	t.Helper()
	got, fault := scan.Scan([]byte(src))
	if fault != (api.Fault{}) || !slices.Equal(got, want) {
		t.Errorf("%.60q: %v %v, want %v", src, got, fault, want)
	}
}

func wantFault(t *testing.T, src string, at int, code api.Errno) {
	t.Helper()
	got, fault := scan.Scan([]byte(src))
	if fault != (api.Fault{At: at, Code: code}) || len(got) != 0 {
		t.Errorf("%.60q: %d tokens, %v, want {%d %d}", src, len(got), fault, at, code)
	}
}

// P1.1

func TestTextOfEachKind(t *testing.T) {
	want := texts()
	if len(want) != 48 || want[30] != "while" || want[66] != "<-=" {
		t.Fatal("the test's own lists are wrong")
	}
	for kind := -300; kind < 300; kind++ {
		if got := scan.Text(kind); got != want[kind] {
			t.Errorf("Text(%d) is %q, want %q", kind, got, want[kind])
		}
	}
	for _, kind := range []int{math.MinInt, math.MaxInt, math.MinInt + 10, 1<<32 + 10, 1<<63 - 40} {
		if got := scan.Text(kind); got != "" {
			t.Errorf("Text(%d) is %q", kind, got)
		}
	}
}

func TestKindOfEachText(t *testing.T) {
	for kind, text := range texts() {
		if got := scan.Kind(text); got != kind {
			t.Errorf("Kind(%q) is %d, want %d", text, got, kind)
		}
	}
}

func TestKindOfNoText(t *testing.T) {
	for _, text := range []string{
		"", " ", "x", "0", "7", "_", "input", "output", "While", "ARRAY", "arra", "arrays", " if", "if ", "if\n",
		"&", "|", "<-==", "=<", "--", "++", "->", "=>", "()", "@", "#", "\x00", "é", "\xff", "if\x00",
		strings.Repeat("a", 33), strings.Repeat("<-=", 1000),
	} {
		if got := scan.Kind(text); got != 0 {
			t.Errorf("Kind(%.40q) is %d", text, got)
		}
	}
}

// P1.2

func TestLongestSource(t *testing.T) {
	wantTokens(t, strings.Repeat(" ", 65536))
	wantTokens(t, "#"+strings.Repeat("@", 65535))
	wantTokens(t, strings.Repeat("\n", 65535)+"x", name(65535, 1))
	wantFault(t, strings.Repeat(" ", 65535)+"@", 65535, api.ErrScanByte)
	wantFault(t, strings.Repeat("@", 65536), 0, api.ErrScanByte)
	wantFault(t, strings.Repeat("1", 65536), 0, api.ErrScanNumber)
	wantFault(t, strings.Repeat("a", 65536), 0, api.ErrScanName)

	got, fault := scan.Scan(bytes.Repeat([]byte("("), 65536))
	if fault != (api.Fault{}) || len(got) != 65536 || got[65535] != sign(40, 65535, 1) {
		t.Errorf("65536 signs: %d tokens, %v", len(got), fault)
	}
}

func TestTooLongSource(t *testing.T) {
	for _, piece := range []string{"@", " ", "(", "a", "1", "#", "\n", "x ", "007 "} {
		src := strings.Repeat(piece, 65537)
		wantFault(t, src[:65537], 65536, api.ErrScanLong)
		wantFault(t, src, 65536, api.ErrScanLong)
	}
	wantFault(t, strings.Repeat(" ", 1<<20), 65536, api.ErrScanLong)
}

// P1.3

func TestNothing(t *testing.T) {
	if got, fault := scan.Scan(nil); len(got) != 0 || fault != (api.Fault{}) {
		t.Error("nil:", got, fault)
	}
	wantTokens(t, "")
	wantTokens(t, "\t\n\r ")
}

func TestRemarks(t *testing.T) {
	wantTokens(t, "# a")
	wantTokens(t, "#")
	wantTokens(t, "#\n")
	wantTokens(t, "# 007 @ \" é \xff \x00 # 9223372036854775808")
	wantTokens(t, "x#y\nz", name(0, 1), name(4, 1))
	wantTokens(t, "x#y\n#\n  #z\n7", name(0, 1), num(11, 1, 7))
	wantTokens(t, "# a\r x\r")
	wantTokens(t, "12#ab", num(0, 2, 12))
	wantFault(t, "# @\n@", 4, api.ErrScanByte)
	wantFault(t, "#\n  007 # a", 4, api.ErrScanNumber)
}

func TestChapterExamples(t *testing.T) {
	wantTokens(t, "x<-1", name(0, 1), sign(65, 1, 2), num(3, 1, 1))
	wantTokens(t, "x < -1", name(0, 1), sign(53, 2, 1), sign(58, 4, 1), num(5, 1, 1))
	wantTokens(t, "c<-=7;", name(0, 1), sign(66, 1, 3), num(4, 1, 7), sign(47, 5, 1))
	wantTokens(t, "t.0.1", name(0, 1), sign(49, 1, 1), num(2, 1, 0), sign(49, 3, 1), num(4, 1, 1))
	wantTokens(t, "while whiles _a", sign(30, 0, 5), name(6, 6), name(13, 2))
	wantTokens(t, "===", sign(51, 0, 2), sign(50, 2, 1))
	wantFault(t, "a 12b", 2, api.ErrScanNumber)
	wantFault(t, "a & b", 2, api.ErrScanByte)
	wantFault(t, "a | b", 2, api.ErrScanByte)
	wantFault(t, "\"x\"", 0, api.ErrScanByte)
	wantFault(t, "é", 0, api.ErrScanByte)
}

func TestOrdinarySource(t *testing.T) {
	wantTokens(t, "val c = make chan of int; # new\nbegin prog() { c <-= 7; }();",
		sign(28, 0, 3), name(4, 1), sign(50, 6, 1), sign(21, 8, 4), sign(14, 13, 4), sign(22, 18, 2), sign(19, 21, 3), sign(47, 24, 1),
		sign(11, 32, 5), sign(23, 38, 4), sign(40, 42, 1), sign(41, 43, 1), sign(44, 45, 1), name(47, 1), sign(66, 49, 3), num(53, 1, 7),
		sign(47, 54, 1), sign(45, 56, 1), sign(40, 57, 1), sign(41, 58, 1), sign(47, 59, 1))
}

func TestNames(t *testing.T) {
	longest := strings.Repeat("a", 32)
	wantTokens(t, longest, name(0, 32))
	wantTokens(t, " "+longest+";", name(1, 32), sign(47, 33, 1))
	wantTokens(t, "_"+strings.Repeat("9", 31), name(0, 32))
	wantFault(t, longest+"a", 0, api.ErrScanName)
	wantFault(t, longest+"_", 0, api.ErrScanName)
	wantFault(t, longest+"0", 0, api.ErrScanName)
	wantFault(t, "x; "+strings.Repeat("Z_9", 11), 3, api.ErrScanName)
	wantFault(t, "while"+longest, 0, api.ErrScanName)
	wantTokens(t, "_", name(0, 1))
	wantTokens(t, "_1 a1b2 AZaz09_", name(0, 2), name(3, 4), name(8, 7))
	wantTokens(t, "input output", name(0, 5), name(6, 6))
	wantTokens(t, "If iF if_ _if if0", name(0, 2), name(3, 2), name(6, 3), name(10, 3), name(14, 3))
}

func TestKeywordsAndSigns(t *testing.T) {
	for kind, text := range texts() {
		wantTokens(t, text, sign(kind, 0, len(text)))
		wantTokens(t, "\r"+text+"#"+text, sign(kind, 1, len(text)))
		wantTokens(t, "("+text+")", sign(40, 0, 1), sign(kind, 1, len(text)), sign(41, 1+len(text), 1))
	}
	for _, text := range strings.Fields(wordList) {
		wantTokens(t, text+"s", name(0, len(text)+1))
		wantTokens(t, text[:len(text)-1]+"_", name(0, len(text)))
		wantTokens(t, text+"."+text, sign(scan.Kind(text), 0, len(text)), sign(49, len(text), 1), sign(scan.Kind(text), len(text)+1, len(text)))
	}
}

func TestNumbers(t *testing.T) {
	wantTokens(t, "0", num(0, 1, 0))
	wantTokens(t, "10 1 42", num(0, 2, 10), num(3, 1, 1), num(5, 2, 42))
	wantTokens(t, "9223372036854775807", num(0, 19, math.MaxInt64))
	wantTokens(t, "9223372036854775799;1000000000000000000", num(0, 19, 9223372036854775799), sign(47, 19, 1), num(20, 19, 1000000000000000000))
	wantTokens(t, "-9223372036854775807", sign(58, 0, 1), num(1, 19, math.MaxInt64))
	for _, bad := range []string{
		"007", "00", "01", "0000000000000000000000001",
		"9223372036854775808", "9223372036854775810", "18446744073709551616", "18446744073709551617", "10000000000000000000",
		strings.Repeat("9", 5000), "1_", "1a", "1Z", "0x1", "0_", "1e5", "12b", "1_000", "1while",
	} {
		wantFault(t, bad, 0, api.ErrScanNumber)
		wantFault(t, "a "+bad+" @", 2, api.ErrScanNumber)
		wantFault(t, "a["+bad+"]", 2, api.ErrScanNumber)
	}
	wantFault(t, "-9223372036854775808", 1, api.ErrScanNumber)
	wantFault(t, "a1 007", 3, api.ErrScanNumber)
	// What is no letter and no `_` behind a number is looked at on its own.
	wantFault(t, "1é", 1, api.ErrScanByte)
	wantFault(t, "1@", 1, api.ErrScanByte)
}

func TestLongestSigns(t *testing.T) {
	wantTokens(t, "<-=", sign(66, 0, 3))
	wantTokens(t, "<-==", sign(66, 0, 3), sign(50, 3, 1))
	wantTokens(t, "<- =", sign(65, 0, 2), sign(50, 3, 1))
	wantTokens(t, "< -=", sign(53, 0, 1), sign(58, 2, 1), sign(50, 3, 1))
	wantTokens(t, "<--", sign(65, 0, 2), sign(58, 2, 1))
	wantTokens(t, "<<-=", sign(53, 0, 1), sign(66, 1, 3))
	wantTokens(t, "<=-", sign(54, 0, 2), sign(58, 2, 1))
	wantTokens(t, "!==", sign(52, 0, 2), sign(50, 2, 1))
	wantTokens(t, "!!=", sign(64, 0, 1), sign(52, 1, 2))
	wantTokens(t, ">>==", sign(55, 0, 1), sign(56, 1, 2), sign(50, 3, 1))
	wantTokens(t, "&&||", sign(62, 0, 2), sign(63, 2, 2))
	wantTokens(t, "<-", sign(65, 0, 2))
	wantTokens(t, "<", sign(53, 0, 1))
	wantFault(t, "&&&", 2, api.ErrScanByte)
	wantFault(t, "|||", 2, api.ErrScanByte)
	wantFault(t, "& &", 0, api.ErrScanByte)
}

// What each byte is, where it stands alone.
func TestEachByteAlone(t *testing.T) {
	const letters = "abcdefghijklmnopqrstuvwxyzABCDEFGHIJKLMNOPQRSTUVWXYZ_"
	for b := range 256 {
		src := string([]byte{byte(b)})
		switch {
		case strings.Contains("\t\n\r #", src):
			wantTokens(t, src)
		case strings.Contains(letters, src):
			wantTokens(t, src, name(0, 1))
		case strings.Contains("0123456789", src):
			wantTokens(t, src, num(0, 1, b-48))
		case scan.Kind(src) != 0:
			wantTokens(t, src, sign(scan.Kind(src), 0, 1))
		default:
			wantFault(t, src, 0, api.ErrScanByte)
			wantFault(t, "x "+src+"y", 2, api.ErrScanByte)
		}
	}
}

func TestFirstFaultIsTold(t *testing.T) {
	long := strings.Repeat("n", 33)
	wantFault(t, "a @ 007 "+long, 2, api.ErrScanByte)
	wantFault(t, "a 007 @ "+long, 2, api.ErrScanNumber)
	wantFault(t, "a "+long+" @ 007", 2, api.ErrScanName)
	wantFault(t, "\"#\n", 0, api.ErrScanByte)
	wantFault(t, "x\x00", 1, api.ErrScanByte)
	wantFault(t, "x\v", 1, api.ErrScanByte)
	wantFault(t, "x\f", 1, api.ErrScanByte)
	wantFault(t, "x\xa0", 1, api.ErrScanByte)
	wantFault(t, "\xef\xbb\xbfx", 0, api.ErrScanByte)
}
