package parse_test

import (
	"math/rand/v2"
	"strings"

	"squint/api"
	"squint/scan"
)

// grammarText is L1's grammar. Only `<-!` is another thing: it is a `<-` that stands right behind `case`, so that an arm that begins with it is of the first kind.
const grammarText = `
program   = { "type" NAME "=" type ";" } { statement } .
type      = "int" | "bool" | NAME | "array" "of" type | "chan" "of" type
          | "(" type "," type { "," type } ")"
          | "prog" "(" [ type { "," type } ] ")" [ ":" type ] .
statement = "val" NAME "=" expr ";"
          | "var" NAME ":" type [ "=" expr ] ";"
          | if-statement
          | "while" expr block
          | "return" [ expr ] ";"
          | "begin" expr ";"
          | "select" "{" { "case" arm } "}"
          | block
          | expr [ "=" expr | "<-=" expr ] ";" .
if-statement = "if" expr block [ "else" ( block | if-statement ) ] .
arm       = "<-!" unary block | NAME "=" "<-" unary block | expr "<-=" expr block .
block     = "{" { statement } "}" .
expr      = and { "||" and } .
and       = comp { "&&" comp } .
comp      = sum [ ( "==" | "!=" | "<" | "<=" | ">" | ">=" ) sum ] .
sum       = term { ( "+" | "-" ) term } .
term      = unary { ( "*" | "/" | "%" ) unary } .
unary     = ( "-" | "!" | "<-" ) unary | postfix .
postfix   = primary { "(" [ expr { "," expr } ] ")" | "[" expr "]" | "." NUMBER } .
primary   = NUMBER | "true" | "false" | NAME | "(" expr { "," expr } ")" | "[" expr { "," expr } "]"
          | "fill" "(" expr "," expr ")" | "len" "(" expr ")" | "make" "chan" "of" type
          | "prog" [ NAME ] "(" [ NAME ":" type { "," NAME ":" type } ] ")" [ ":" type ] block .
`

// rule: what a word of the grammar may become: words of the grammar, and tokens (these in quotes, or NAME, NUMBER).
type rule struct {
	left  string
	right []string
}

// grammar: all rules, by what they are of; braces and brackets are words of their own, whose names end with their numbers.
type grammar struct {
	words []string // of the text, that are still to be read
	rules []rule
	of    map[string][]int
	low   map[string]int // how high what comes of a word is at least
}

func readGrammar() *grammar {
	g := &grammar{words: strings.Fields(grammarText), of: map[string][]int{}, low: map[string]int{}}
	for len(g.words) > 0 {
		left := g.words[0]
		g.words = g.words[2:]
		g.choices(left, ".")
	}
	for again := true; again; {
		again = false
		for _, r := range g.rules {
			high := 0
			for _, w := range r.right {
				if h, known := g.low[w]; known {
					high = max(high, h)
				} else if !isToken(w) {
					high = 1 << 20
				}
			}
			if h, known := g.low[r.left]; high < 1<<20 && (!known || high+1 < h) {
				g.low[r.left] = high + 1
				again = true
			}
		}
	}
	return g
}

func isToken(word string) bool {
	return word[0] == '"' || word == "NAME" || word == "NUMBER"
}

func (g *grammar) add(left string, right []string) {
	g.of[left] = append(g.of[left], len(g.rules))
	g.rules = append(g.rules, rule{left, right})
}

// choices reads what stands up to an end, and adds a rule for each choice.
func (g *grammar) choices(left, end string) {
	var right []string
	for {
		w := g.words[0]
		g.words = g.words[1:]
		inner := left + "'" + string(rune('A'+len(g.rules)))
		switch w {
		case end:
			g.add(left, right)
			return
		case "|":
			g.add(left, right)
			right = nil
			continue
		case "{":
			g.add(inner, nil)
			g.choices(inner+"one", "}")
			g.add(inner, []string{inner + "one", inner})
			w = inner
		case "[":
			g.add(inner, nil)
			g.choices(inner, "]")
			w = inner
		case "(":
			g.choices(inner, ")")
			w = inner
		}
		right = append(right, w)
	}
}

// item: so many words of a rule have been found, from a column on.
type item struct{ rule, dot, from int }

// chart: of each number of tokens, from none on, the items that these leave open.
type chart struct {
	g       *grammar
	columns [][]item
}

func newChart(g *grammar) *chart {
	c := &chart{g: g}
	var first []item
	for _, r := range g.of["program"] {
		first = append(first, item{r, 0, 0})
	}
	c.fill(first)
	return c
}

// wanted is the word that an item wants next; empty, if it is done.
func (c *chart) wanted(x item) string {
	right := c.g.rules[x.rule].right
	if x.dot == len(right) {
		return ""
	}
	return right[x.dot]
}

// fill makes a new column of its first items.
func (c *chart) fill(column []item) {
	here := len(c.columns)
	c.columns = append(c.columns, nil)
	seen := map[item]bool{}
	put := func(x item) {
		if !seen[x] {
			seen[x] = true
			column = append(column, x)
		}
	}
	for _, x := range column {
		seen[x] = true
	}
	for i := 0; i < len(column); i++ {
		x := column[i]
		word := c.wanted(x)
		if word == "" {
			left := c.g.rules[x.rule].left
			from := c.columns[x.from]
			if x.from == here {
				from = column
			}
			for _, y := range from {
				if c.wanted(y) == left {
					put(item{y.rule, y.dot + 1, y.from})
				}
			}
			continue
		}
		for _, r := range c.g.of[word] {
			put(item{r, 0, here})
			if len(c.g.rules[r].right) == 0 {
				put(item{x.rule, x.dot + 1, x.from})
			}
		}
	}
	c.columns[here] = column
}

// open are the tokens that may stand next.
func (c *chart) open() map[string]bool {
	out := map[string]bool{}
	for _, x := range c.columns[len(c.columns)-1] {
		if w := c.wanted(x); w != "" && isToken(w) {
			out[w] = true
		}
	}
	return out
}

// whole tells whether the tokens so far are a source.
func (c *chart) whole() bool {
	for _, x := range c.columns[len(c.columns)-1] {
		if c.wanted(x) == "" && c.g.rules[x.rule].left == "program" && x.from == 0 {
			return true
		}
	}
	return false
}

// take passes over a token; false, if it can't stand there.
func (c *chart) take(word string) bool {
	var next []item
	for _, x := range c.columns[len(c.columns)-1] {
		if c.wanted(x) == word {
			next = append(next, item{x.rule, x.dot + 1, x.from})
		}
	}
	if next == nil {
		return false
	}
	c.fill(next)
	return true
}

// word is what the grammar calls a token, with the one ahead of it.
func word(ahead, token string) string {
	tokens, _ := scan.Scan([]byte(token))
	switch {
	case tokens[0].Kind == api.TokName:
		return "NAME"
	case tokens[0].Kind == api.TokNumber:
		return "NUMBER"
	case token == "<-" && ahead == "case":
		return `"<-!"`
	}
	return `"` + token + `"`
}

// firstWrong is the number of the first token that can't stand where it does (how many there are, if the end can't); -1, if they are a source.
func firstWrong(g *grammar, tokens []string) int {
	c := newChart(g)
	ahead := ""
	for i, t := range tokens {
		if !c.take(word(ahead, t)) {
			return i
		}
		ahead = t
	}
	if c.whole() {
		return -1
	}
	return len(tokens)
}

// maker makes sources by the grammar.
type maker struct {
	*rand.Rand
	g *grammar
}

// tokens are what comes of a word, no higher than so much, where that can be.
func (m maker) tokens(word string, high int) []string {
	switch {
	case word == "NAME":
		return []string{[]string{"a", "b", "_", "x1", "input", "ifs", strings.Repeat("q", 32)}[m.IntN(7)]}
	case word == "NUMBER":
		return []string{[]string{"0", "1", "42", "9223372036854775807"}[m.IntN(4)]}
	case word == `"<-!"`:
		return []string{"<-"}
	case isToken(word):
		return []string{strings.Trim(word, `"`)}
	}
	var can []int
	for _, r := range m.g.of[word] {
		if m.height(r) <= high {
			can = append(can, r)
		}
	}
	if len(can) == 0 {
		for _, r := range m.g.of[word] {
			if m.height(r) <= m.g.low[word] {
				can = append(can, r)
			}
		}
	}
	var out []string
	for _, w := range m.g.rules[can[m.IntN(len(can))]].right {
		out = append(out, m.tokens(w, high-1)...)
	}
	return out
}

func (m maker) height(r int) int {
	high := 0
	for _, w := range m.g.rules[r].right {
		high = max(high, m.g.low[w])
	}
	return high + 1
}

// spoil makes one of the tokens another one, takes it out, or puts one in.
func (m maker) spoil(tokens []string) []string {
	out := append([]string(nil), tokens...)
	i := m.IntN(len(out) + 1)
	all := allTokens()
	one := all[m.IntN(len(all))]
	switch {
	case m.IntN(3) == 0:
		return append(out[:i:i], append([]string{one}, out[i:]...)...)
	case i == len(out):
		return out
	case m.IntN(2) == 0:
		return append(out[:i], out[i+1:]...)
	}
	out[i] = one
	return out
}

// allTokens is a token of each kind.
func allTokens() []string {
	out := []string{"z", "7"}
	for kind := range 100 {
		if text := scan.Text(kind); text != "" {
			out = append(out, text)
		}
	}
	return out
}
