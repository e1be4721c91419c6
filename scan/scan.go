// Package scan is layer 1: a source as tokens: see shared/doc/01-scan.md.
package scan

import (
	"bytes"
	"strconv"

	"squint/api"
)

// Scan tells the tokens of a source; or what is wrong with it.
func Scan(src []byte) ([]api.Token, api.Fault) {
	if len(src) > api.MaxSource {
		return nil, api.Fault{At: api.MaxSource, Code: api.ErrScanLong}
	}
	var tokens []api.Token
	at := skip(src, 0)
	for at < len(src) {
		tok, code := next(src, at)
		if code != api.OK {
			return nil, api.Fault{At: at, Code: code}
		}
		tokens = append(tokens, tok)
		at = skip(src, at+tok.Len)
	}
	return tokens, api.Fault{}
}

// skip is the first place, from at on, where neither a blank nor a remark stands.
func skip(src []byte, at int) int {
	for at < len(src) {
		switch {
		case isBlank(src[at]):
			at++
		case src[at] == '#':
			at = span(src, at, isRemark)
		default:
			return at
		}
	}
	return at
}

// next is the token that stands at a place; or what is wrong there.
func next(src []byte, at int) (api.Token, api.Errno) {
	switch {
	case isWordStart(src[at]):
		return word(src, at)
	case isDigit(src[at]):
		return number(src, at)
	}
	return sign(src, at)
}

func word(src []byte, at int) (api.Token, api.Errno) {
	end := span(src, at, isWordByte)
	tok := api.Token{Kind: wordKind(string(src[at:end])), At: at, Len: end - at}
	if tok.Kind != 0 {
		return tok, api.OK
	}
	if tok.Len > api.MaxName {
		return api.Token{}, api.ErrScanName
	}
	tok.Kind = api.TokName
	return tok, api.OK
}

func number(src []byte, at int) (api.Token, api.Errno) {
	end := span(src, at, isDigit)
	if end < len(src) && isWordStart(src[end]) {
		return api.Token{}, api.ErrScanNumber
	}
	if src[at] == '0' && end-at > 1 {
		return api.Token{}, api.ErrScanNumber
	}
	num, err := strconv.Atoi(string(src[at:end]))
	if err != nil {
		return api.Token{}, api.ErrScanNumber
	}
	return api.Token{Kind: api.TokNumber, At: at, Len: end - at, Num: num}, api.OK
}

// sign holds all signs against the source, as one may begin another: the longest wins.
func sign(src []byte, at int) (api.Token, api.Errno) {
	tok := api.Token{At: at}
	for i := range len(signs) {
		if len(signs[i]) > tok.Len && bytes.HasPrefix(src[at:], []byte(signs[i])) {
			tok.Kind, tok.Len = api.TokSign+i, len(signs[i])
		}
	}
	if tok.Len == 0 {
		return api.Token{}, api.ErrScanByte
	}
	return tok, api.OK
}

// span is the end of the run of bytes, from at on, that are all of one class.
func span(src []byte, at int, class func(byte) bool) int {
	for at < len(src) && class(src[at]) {
		at++
	}
	return at
}

func isBlank(b byte) bool { return b == 9 || b == 10 || b == 13 || b == 32 }

// A remark's last byte is the one ahead of the 10: that one is a blank.
func isRemark(b byte) bool { return b != 10 }

// A `_` is no letter, but a word may begin with it, and a number may not run into it.
func isWordStart(b byte) bool { return b >= 'a' && b <= 'z' || b >= 'A' && b <= 'Z' || b == '_' }

func isDigit(b byte) bool { return b >= '0' && b <= '9' }

func isWordByte(b byte) bool { return isWordStart(b) || isDigit(b) }
