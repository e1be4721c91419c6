package scan_test

import (
	"bytes"
	"math/big"
	"math/rand/v2"
	"regexp"
	"slices"
	"strings"
	"testing"

	"squint/api"
	"squint/scan"
)

var (
	gapForm    = regexp.MustCompile(`^(?:[\t\n\r ]|#[^\n]*)+`)
	wordForm   = regexp.MustCompile(`^[A-Za-z_][A-Za-z0-9_]*`)
	numberForm = regexp.MustCompile(`^[0-9]+[A-Za-z_]?`)
	wellForm   = regexp.MustCompile(`^(?:0|[1-9][0-9]*)$`)
	signForm   = regexp.MustCompile(`^(?:<-=|==|!=|<=|>=|&&|\|\||<-|[()\[\]{},;:.=<>+*/%!-])`)
)

// plain reads the chapter a second time, by patterns, to be held against Scan.
func plain(src []byte) ([]api.Token, api.Fault) {
	if len(src) > 65536 {
		return nil, api.Fault{At: 65536, Code: api.ErrScanLong}
	}
	var out []api.Token
	for at := 0; at < len(src); {
		rest := src[at:]
		if gap := gapForm.Find(rest); gap != nil {
			at += len(gap)
			continue
		}
		tok, code := plainToken(rest)
		if code != api.OK {
			return nil, api.Fault{At: at, Code: code}
		}
		tok.At = at
		out = append(out, tok)
		at += tok.Len
	}
	return out, api.Fault{}
}

func plainToken(rest []byte) (api.Token, api.Errno) {
	if w := string(wordForm.Find(rest)); w != "" {
		if i := slices.Index(strings.Fields(wordList), w); i >= 0 {
			return api.Token{Kind: 10 + i, Len: len(w)}, api.OK
		}
		if len(w) > 32 {
			return api.Token{}, api.ErrScanName
		}
		return api.Token{Kind: 1, Len: len(w)}, api.OK
	}
	if n := string(numberForm.Find(rest)); n != "" {
		big, ok := new(big.Int).SetString(n, 10)
		if !ok || !wellForm.MatchString(n) || !big.IsInt64() {
			return api.Token{}, api.ErrScanNumber
		}
		return api.Token{Kind: 2, Len: len(n), Num: int(big.Int64())}, api.OK
	}
	if s := string(signForm.Find(rest)); s != "" {
		return api.Token{Kind: 40 + slices.Index(strings.Fields(signList), s), Len: len(s)}, api.OK
	}
	return api.Token{}, api.ErrScanByte
}

// made makes a source of pieces, some of them wrong ones, if that is asked for.
func made(r *rand.Rand, wrong bool) []byte {
	good := slices.Concat(strings.Fields(wordList), strings.Fields(signList), []string{
		" ", "  ", "\n", "\t", "\r", " ", " ", " ", "# x\n", "#\n", "# 007 @\xff\n", "x", "_", "a1", "_9", "whiles", "Val",
		strings.Repeat("q", 32), " 0 ", " 7 ", " 10 ", " 9223372036854775807 ",
	})
	bad := []string{"@", "&", "|", "\"", "é", "\x00", "\xff", " 007", " 00 ", " 9223372036854775808 ", " 1_", " 1x", strings.Repeat("w", 33), "0", "9", "#"}
	var out []byte
	for range r.IntN(30) {
		if wrong && r.IntN(12) == 0 {
			out = append(out, bad[r.IntN(len(bad))]...)
		} else {
			out = append(out, good[r.IntN(len(good))]...)
		}
	}
	return out
}

// sound makes a source that is scanned without a fault, and its tokens.
func sound(r *rand.Rand) ([]byte, []api.Token) {
	for {
		src := made(r, false)
		if tokens, fault := scan.Scan(src); fault.Code == api.OK {
			return src, tokens
		}
	}
}

func moved(l []api.Token, by int) []api.Token {
	out := slices.Clone(l)
	for i := range out {
		out[i].At += by
	}
	return out
}

func withoutPlaces(l []api.Token) []api.Token {
	out := slices.Clone(l)
	for i := range out {
		out[i].At = 0
	}
	return out
}

// P1.3, on many sources, right ones and wrong ones.
func TestAgainstPatterns(t *testing.T) {
	r := rand.New(rand.NewPCG(1, 1))
	faults := map[api.Errno]int{}
	for range 20000 {
		src := made(r, true)
		want, wantFault := plain(src)
		got, fault := scan.Scan(src)
		if fault != wantFault || !slices.Equal(got, want) {
			t.Fatalf("%q: %v %v, want %v %v", src, got, fault, want, wantFault)
		}
		faults[fault.Code]++
	}
	for _, code := range []api.Errno{api.OK, api.ErrScanByte, api.ErrScanNumber, api.ErrScanName} {
		if faults[code] < 100 {
			t.Errorf("only %d sources with %d", faults[code], code)
		}
	}
}

// P1.3: each text of at most four bytes of those that matter to each other.
func TestShortTexts(t *testing.T) {
	const bytesThatMeet = "<-=!>&|09a_# \n.@"
	var all func(src []byte, left int)
	all = func(src []byte, left int) {
		want, wantFault := plain(src)
		if got, fault := scan.Scan(src); fault != wantFault || !slices.Equal(got, want) {
			t.Fatalf("%q: %v %v, want %v %v", src, got, fault, want, wantFault)
		}
		if left == 0 {
			return
		}
		for i := range len(bytesThatMeet) {
			all(append(slices.Clone(src), bytesThatMeet[i]), left-1)
		}
	}
	all(nil, 4)
}

// P1.4: blanks and remarks alone stand between tokens.
func TestGaps(t *testing.T) {
	r := rand.New(rand.NewPCG(2, 2))
	for range 3000 {
		src, tokens := sound(r)
		at := 0
		for _, tok := range append(tokens, api.Token{At: len(src)}) {
			gap := src[at:tok.At]
			if len(gapForm.Find(gap)) != len(gap) {
				t.Fatalf("%q: %q stands between tokens", src, gap)
			}
			at = tok.At + tok.Len
		}
	}
}

// P1.4: a token's bytes, alone, are that token.
func TestTokensAlone(t *testing.T) {
	r := rand.New(rand.NewPCG(3, 3))
	for range 3000 {
		src, tokens := sound(r)
		for _, tok := range tokens {
			alone, fault := scan.Scan(src[tok.At : tok.At+tok.Len])
			if fault != (api.Fault{}) || !slices.Equal(alone, withoutPlaces([]api.Token{tok})) {
				t.Fatalf("%q: %v alone is %v %v", src, tok, alone, fault)
			}
		}
	}
}

// P1.4: what stands between tokens changes their places alone.
func TestOtherGaps(t *testing.T) {
	r := rand.New(rand.NewPCG(4, 4))
	gaps := []string{" ", "\n", "\t", "\r", " # a\n", "#<-=\n", "\r\n\r\n", " #\n#\n "}
	for range 3000 {
		src, tokens := sound(r)
		var other []byte
		var places []int
		for _, tok := range tokens {
			other = append(other, gaps[r.IntN(len(gaps))]...)
			places = append(places, len(other))
			other = append(other, src[tok.At:tok.At+tok.Len]...)
		}
		got, fault := scan.Scan(other)
		if fault != (api.Fault{}) || !slices.Equal(withoutPlaces(got), withoutPlaces(tokens)) {
			t.Fatalf("%q: %v %v, want as of %q: %v", other, got, fault, src, tokens)
		}
		for i, tok := range got {
			if tok.At != places[i] {
				t.Fatalf("%q: %v, want it at %d", other, tok, places[i])
			}
		}
	}
}

// P1.5
func TestJoined(t *testing.T) {
	r := rand.New(rand.NewPCG(5, 5))
	for range 5000 {
		s, first := sound(r)
		if r.IntN(4) == 0 {
			s = append(s, "# open"...)
		}
		u, second := sound(r)
		want := append(slices.Clone(first), moved(second, len(s)+1)...)
		joined := slices.Concat(s, []byte{10}, u)
		got, fault := scan.Scan(joined)
		if fault != (api.Fault{}) || !slices.Equal(got, want) {
			t.Fatalf("%q: %v %v, want %v", joined, got, fault, want)
		}
	}
}

// P1.5, at its edge: joined sources of 65536 bytes, and of one more.
func TestJoinedUpToTheLimit(t *testing.T) {
	half := bytes.Repeat([]byte("x "), 16384)
	joined := slices.Concat(half, []byte{10}, half[1:])
	if got, fault := scan.Scan(joined); fault != (api.Fault{}) || len(got) != 32767 {
		t.Errorf("%d bytes: %d tokens, %v", len(joined), len(got), fault)
	}
	joined = slices.Concat(half, []byte{10}, half)
	if got, fault := scan.Scan(joined); fault != (api.Fault{At: 65536, Code: api.ErrScanLong}) || len(got) != 0 {
		t.Errorf("%d bytes: %d tokens, %v", len(joined), len(got), fault)
	}
}

// R4: the source and the room behind it stay as they are; no answer shows another.
func TestMemory(t *testing.T) {
	room := []byte("val x = 10 ; # rest 99 @@")
	before := slices.Clone(room)
	src := room[:9]
	first, _ := scan.Scan(src)
	if !bytes.Equal(room, before) {
		t.Errorf("the source was changed: %q", room)
	}
	want := slices.Clone(first)
	if !slices.Equal(first, []api.Token{{Kind: 28, Len: 3}, name(4, 1), sign(50, 6, 1), num(8, 1, 1)}) {
		t.Errorf("bytes behind the source's end were read: %v", first)
	}
	spare := first[:cap(first)]
	for i := range spare {
		spare[i] = api.Token{Kind: -1, At: -1, Len: -1, Num: -1}
	}
	if second, _ := scan.Scan(src); !slices.Equal(second, want) {
		t.Errorf("a later answer is %v, want %v", second, want)
	}
	second, _ := scan.Scan(src)
	clear(room)
	if !slices.Equal(second, want) {
		t.Errorf("an answer hangs on its source: %v", second)
	}
}
