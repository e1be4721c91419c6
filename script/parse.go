package script

import (
	"errors"
	"strconv"
	"strings"

	"squint/api"
)

// Parse reads a script; or tells the line that is wrong, from 1 on, and why.
func Parse(text string) (api.Script, int, api.Errno) {
	s, err := read(text)
	var w wrong
	if errors.As(err, &w) {
		return api.Script{}, w.line, w.code
	}
	return s, 0, api.OK
}

func read(text string) (api.Script, error) {
	var s api.Script
	r := reader{rest: text}
	err := r.limits(&s.Limits)
	if err == nil {
		err = r.reap(&s.Reap)
	}
	for err == nil && r.rest != "" {
		err = r.pick(&s)
	}
	return s, err
}

// reader goes through a text, line by line.
type reader struct {
	line int                   // the number of the line that is being read
	next func() (string, bool) // takes its words off, one by one
	rest string                // what stands behind it
}

func (r *reader) wrong(code api.Errno) error { return wrong{r.line, code} }

// begin goes on to the next line, and takes its first word off.
func (r *reader) begin() (string, error) {
	line, rest, ended := strings.Cut(r.rest, "\n")
	r.line++
	if !ended {
		return "", r.wrong(api.ErrScriptWord)
	}
	r.next, r.rest = words(line), rest
	word, _ := r.next()
	return word, nil
}

// words takes the words off a line; false, if none is left. Beside a blank too many there is an empty one.
func words(line string) func() (string, bool) {
	more := true
	return func() (word string, ok bool) {
		ok = more
		word, line, more = strings.Cut(line, " ")
		return word, ok
	}
}

func (r *reader) limits(l *api.Limits) error {
	word, err := r.begin()
	if err != nil {
		return err
	}
	if word != limitsWord {
		return r.wrong(api.ErrScriptWord)
	}
	return r.numbers(&l.Procs, &l.Live, &l.Chans, &l.Ticks, &l.Cells, &l.Depth, &l.Nest)
}

func (r *reader) reap(reap *bool) error {
	word, err := r.begin()
	if err != nil {
		return err
	}
	if word != keepWord && word != reapWord {
		return r.wrong(api.ErrScriptWord)
	}
	*reap = word == reapWord
	return r.numbers()
}

// pick reads a pick, and lays it behind those of the script.
func (r *reader) pick(s *api.Script) error {
	word, err := r.begin()
	if err != nil {
		return err
	}
	p := api.Pick{Kind: kindOf(word)}
	has, ok := shapeOf(p.Kind)
	if !ok {
		return r.wrong(api.ErrScriptWord)
	}
	if len(s.Picks) == api.MaxPicks {
		return r.wrong(api.ErrScriptMany)
	}
	both := []*int{&p.N, &p.V}
	if err := r.numbers(both[:has.numbers]...); err != nil {
		return err
	}
	s.Picks = append(s.Picks, p)
	return nil
}

// numbers takes a number off the line for each of these; then the line must have no more words.
func (r *reader) numbers(into ...*int) error {
	for _, to := range into {
		word, _ := r.next()
		n, ok := number(word)
		if !ok {
			return r.wrong(api.ErrScriptField)
		}
		*to = n
	}
	if _, more := r.next(); more {
		return r.wrong(api.ErrScriptField)
	}
	return nil
}

// number is the number that a word is. (A word that is not there is empty, and no number either.)
func number(word string) (int, bool) {
	n, err := strconv.Atoi(word)
	// Atoi also takes zeros and a plus ahead, and a minus ahead of a 0.
	if err != nil || strconv.Itoa(n) != word {
		return 0, false
	}
	return n, true
}
