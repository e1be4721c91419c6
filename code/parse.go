package code

import (
	"slices"
	"strconv"
	"strings"

	"squint/api"
)

func Parse(text string) (api.Unit, int, api.Errno) {
	var u api.Unit
	for at := 1; text != ""; at++ {
		line, rest, ended := strings.Cut(text, "\n")
		if !ended || !add(&u, line) {
			return api.Unit{}, at, api.ErrCodeForm
		}
		text = rest
	}
	return u, 0, api.OK
}

// add puts what a line says behind all that the unit has; false, if it can't stand there.
func add(u *api.Unit, line string) bool {
	word, list, ok := split(line)
	switch {
	case !ok:
		return false
	case word == typeWord:
		return addType(u, list)
	case word == progWord && len(list) == 4:
		return addProg(u, list)
	}
	return addInstruction(u, word, list)
}

// split parts a line's first word from the numbers behind it.
func split(line string) (string, []int, bool) {
	var list []int
	word, rest, more := strings.Cut(line, " ")
	for more {
		var text string
		text, rest, more = strings.Cut(rest, " ")
		n, err := strconv.Atoi(text)
		// Atoi also takes zeros and a plus ahead, which are never written.
		if err != nil || strconv.Itoa(n) != text {
			return "", nil, false
		}
		list = append(list, n)
	}
	return word, list, true
}

func addType(u *api.Unit, list []int) bool {
	if len(u.Progs) > 0 || len(list) < 2 || !isBit(list[1]) {
		return false
	}
	u.Types = append(u.Types, api.Type{Kind: list[0], Res: list[1] == 1, Kids: behind(list, 2)})
	return true
}

func addProg(u *api.Unit, list []int) bool {
	if !isBit(list[3]) {
		return false
	}
	u.Progs = append(u.Progs, api.Prog{Params: list[0], Slots: list[1], Caps: list[2], Res: list[3] == 1})
	return true
}

func addInstruction(u *api.Unit, word string, list []int) bool {
	i, ok := instructionOf(Op(word), list)
	if !ok || len(u.Progs) == 0 {
		return false
	}
	last := &u.Progs[len(u.Progs)-1]
	last.Code = append(last.Code, i)
	return true
}

func instructionOf(op int, list []int) (api.Ins, bool) {
	s := shapeOf(op)
	first := s.first()
	if s.name == "" || len(list) < first || len(list) > first && s.has&hasList == 0 {
		return api.Ins{}, false
	}
	i := api.Ins{Op: op, List: behind(list, first)}
	// No operation has B without A.
	if first > 0 {
		i.A = list[0]
	}
	if first > 1 {
		i.B = list[1]
	}
	return i, true
}

// behind is what stands behind so many numbers of a list, in memory of its own.
func behind(list []int, many int) []int {
	if len(list) == many {
		return nil
	}
	return slices.Clone(list[many:])
}

func isBit(n int) bool { return n == 0 || n == 1 }
