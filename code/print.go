package code

import (
	"strconv"

	"squint/api"
)

// The words of the lines that are no instructions.
const (
	typeWord = "type"
	progWord = "prog"
)

// Print writes a unit, Parse reads one; or tells the line that is wrong, from 1 on.
func Print(u api.Unit) (string, api.Errno) {
	var out []byte
	for _, t := range u.Types {
		out = words(out, typeWord, t.Kind, bit(t.Res))
		out = append(numbers(out, t.Kids), '\n')
	}
	for _, p := range u.Progs {
		out = append(words(out, progWord, p.Params, p.Slots, p.Caps, bit(p.Res)), '\n')
		for _, i := range p.Code {
			if !fits(i) {
				return "", api.ErrCodeForm
			}
			out = append(instruction(out, i), '\n')
		}
	}
	return string(out), api.OK
}

// fits tells whether an instruction has nothing that its operation has not.
func fits(i api.Ins) bool {
	s := shapeOf(i.Op)
	return s.name != "" &&
		(i.A == 0 || s.has&hasA != 0) &&
		(i.B == 0 || s.has&hasB != 0) &&
		(len(i.List) == 0 || s.has&hasList != 0)
}

func instruction(out []byte, i api.Ins) []byte {
	s := shapeOf(i.Op)
	out = words(out, s.name)
	if s.has&hasA != 0 {
		out = numbers(out, []int{i.A})
	}
	if s.has&hasB != 0 {
		out = numbers(out, []int{i.B})
	}
	return numbers(out, i.List)
}

func words(out []byte, word string, list ...int) []byte {
	return numbers(append(out, word...), list)
}

func numbers(out []byte, list []int) []byte {
	for _, n := range list {
		out = strconv.AppendInt(append(out, ' '), int64(n), 10)
	}
	return out
}

func bit(is bool) int {
	if is {
		return 1
	}
	return 0
}
