package trace

import (
	"strconv"

	"squint/api"
)

// Print writes events, a line each.
func Print(l []api.Event) (string, api.Errno) {
	var text []byte
	for _, e := range l {
		if Check(e) != api.OK {
			return "", api.ErrTraceForm
		}
		text = layLine(text, wordsOf(e)...)
	}
	return string(text), api.OK
}

// wordsOf are the words of the line of an event that Check takes.
func wordsOf(e api.Event) []string {
	s, _ := shapeOf(e.Kind)
	words := []string{s.word}
	for k, n := range placesOf(e) {
		if s.hasPlace(k) {
			words = append(words, strconv.Itoa(n))
		}
	}
	switch s.tail {
	case numTail:
		words = append(words, strconv.Itoa(e.Num))
	case trapTail, spentTail:
		words = append(words, numWords(s.tail)[e.Num-1])
	case listTail:
		for _, n := range e.List {
			words = append(words, strconv.Itoa(n))
		}
	}
	return words
}

// layLine lays words behind a text, as a line.
func layLine(text []byte, words ...string) []byte {
	for k, word := range words {
		if k > 0 {
			text = append(text, ' ')
		}
		text = append(text, word...)
	}
	return append(text, '\n')
}
