package trace

import (
	"slices"
	"strconv"
	"strings"

	"squint/api"
)

// Parse reads events; or tells the line that is wrong, from 1 on.
func Parse(text string) ([]api.Event, int, api.Errno) {
	var list []api.Event
	begin := 0 // where the line stands that is being gone through
	for at, letter := range text {
		if letter != '\n' {
			continue
		}
		e, ok := eventOf(text[begin:at])
		if !ok {
			return nil, len(list) + 1, api.ErrTraceForm
		}
		list = append(list, e)
		begin = at + 1
	}
	if begin < len(text) {
		return nil, len(list) + 1, api.ErrTraceForm
	}
	return list, 0, api.OK
}

// eventOf is the event of a line; false, if it is none's.
func eventOf(text string) (api.Event, bool) {
	l := line{rest: text}
	kind := kindOf(l.word())
	s, ok := shapeOf(kind)
	if !ok {
		return api.Event{}, false
	}
	var read [places]int
	for k := range read {
		if s.hasPlace(k) {
			read[k] = l.number()
		}
	}
	e := api.Event{Kind: kind, P: read[0], I: read[1], Q: read[2], J: read[3], Chan: read[4]}
	switch s.tail {
	case numTail:
		e.Num = l.number()
	case trapTail, spentTail:
		// Of another word it is 0, which Check refuses.
		e.Num = slices.Index(numWords(s.tail), l.word()) + 1
	case listTail:
		e.List = l.numbers()
	}
	return e, !l.more && !l.wrong && Check(e) == api.OK
}

// line is one whose words are taken off.
type line struct {
	rest  string // what is left
	more  bool   // there is a word left, if only an empty one behind a blank
	wrong bool   // a number was wanted where there was none
}

// word takes the next word off. One that is not there is empty, which is no right word either.
func (l *line) word() (word string) {
	word, l.rest, l.more = strings.Cut(l.rest, " ")
	return word
}

func (l *line) number() int {
	word := l.word()
	n, err := strconv.Atoi(word)
	// Atoi also takes zeros and a plus ahead, and a minus ahead of a 0, which are never written.
	if err != nil || strconv.Itoa(n) != word {
		l.wrong = true
	}
	return n
}

// numbers takes all that is left, up to where there is none.
func (l *line) numbers() []int {
	var list []int
	for l.more && !l.wrong {
		list = append(list, l.number())
	}
	return list
}
