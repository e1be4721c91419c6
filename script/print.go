package script

import (
	"errors"
	"strconv"

	"squint/api"
)

// Print writes a script.
func Print(s api.Script) (string, api.Errno) {
	text, err := write(s)
	var w wrong
	if errors.As(err, &w) {
		return "", w.code
	}
	return string(text), api.OK
}

func write(s api.Script) ([]byte, error) {
	if len(s.Picks) > api.MaxPicks {
		return nil, wrong{code: api.ErrScriptMany}
	}
	l := s.Limits
	text := addLine(nil, limitsWord, l.Procs, l.Live, l.Chans, l.Ticks, l.Cells, l.Depth, l.Nest)
	if s.Reap {
		text = addLine(text, reapWord)
	} else {
		text = addLine(text, keepWord)
	}
	for _, p := range s.Picks {
		var err error
		if text, err = addPick(text, p); err != nil {
			return nil, err
		}
	}
	return text, nil
}

// addPick writes a pick's line behind a text; an error, if its kind has no such line.
func addPick(text []byte, p api.Pick) ([]byte, error) {
	has, ok := shapeOf(p.Kind)
	if !ok {
		return nil, wrong{code: api.ErrScriptField}
	}
	both := [2]int{p.N, p.V}
	for _, n := range both[has.numbers:] {
		if n != 0 {
			return nil, wrong{code: api.ErrScriptField}
		}
	}
	return addLine(text, has.word, both[:has.numbers]...), nil
}

func addLine(text []byte, word string, numbers ...int) []byte {
	text = append(text, word...)
	for _, n := range numbers {
		text = append(text, ' ')
		text = strconv.AppendInt(text, int64(n), 10)
	}
	return append(text, '\n')
}
