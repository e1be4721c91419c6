package scan

import "squint/api"

// A keyword's place in this table is its number: other layers count on the order.
var words = [...]string{
	"array", "begin", "bool", "case", "chan", "else", "false",
	"fill", "if", "int", "len", "make", "of", "prog",
	"return", "select", "true", "type", "val", "var", "while",
}

// A sign's place in this table is its number, likewise.
var signs = [...]string{
	"(", ")", "[", "]", "{", "}", ",", ";", ":", ".",
	"=", "==", "!=", "<", "<=", ">", ">=",
	"+", "-", "*", "/", "%", "&&", "||", "!", "<-", "<-=",
}

// Text is a kind of token's text, of a keyword or a sign; none, if it has none.
func Text(kind int) string {
	switch {
	case kind >= api.TokWord && kind < api.TokWord+len(words):
		return words[kind-api.TokWord]
	case kind >= api.TokSign && kind < api.TokSign+len(signs):
		return signs[kind-api.TokSign]
	}
	return ""
}

// Kind is the kind of a keyword or a sign; 0, if a text is none.
func Kind(text string) int {
	if kind := wordKind(text); kind != 0 {
		return kind
	}
	for i := range len(signs) {
		if signs[i] == text {
			return api.TokSign + i
		}
	}
	return 0
}

// wordKind is the kind of a keyword; 0, if a text is none.
func wordKind(text string) int {
	for i := range len(words) {
		if words[i] == text {
			return api.TokWord + i
		}
	}
	return 0
}
