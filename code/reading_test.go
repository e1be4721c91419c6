package code

import (
	"math/big"
	"regexp"
	"strconv"
	"strings"

	"squint/api"
)

// number is how strconv writes ints, but for their bounds.
const number = `(?: (?:0|-?[1-9][0-9]*))`

var (
	typeLine = regexp.MustCompile(`\Atype` + number + ` [01]` + number + `*\z`)
	progLine = regexp.MustCompile(`\Aprog` + number + `{3} [01]\z`)
	opLine   = map[string]*regexp.Regexp{}
)

func init() {
	for _, l := range table {
		opLine[l.name] = regexp.MustCompile(`\A` + l.name + strings.NewReplacer("A", number, "B", number, "L", number+"*").Replace(l.has) + `\z`)
	}
}

// within tells whether all numbers of a line are ints.
func within(line string) bool {
	for _, w := range strings.Split(line, " ")[1:] {
		n, ok := new(big.Int).SetString(w, 10)
		if !ok || !n.IsInt64() {
			return false
		}
	}
	return true
}

// kindOf is which of the three kinds a line is: type, prog, instruction, or none.
func kindOf(line string) string {
	word := strings.Split(line, " ")[0]
	switch {
	case typeLine.MatchString(line) && within(line):
		return "type"
	case progLine.MatchString(line) && within(line):
		return "prog"
	case opLine[word] != nil && opLine[word].MatchString(line) && within(line):
		return "instruction"
	}
	return "none"
}

// wrongLine is the second reading of where a text is that of no unit: 0, if it is that of one.
func wrongLine(text string) int {
	progs := false
	for at, line := range strings.SplitAfter(text, "\n") {
		if line == "" {
			break
		}
		body, ended := strings.CutSuffix(line, "\n")
		if !ended {
			return at + 1
		}
		switch kindOf(body) {
		case "none":
			return at + 1
		case "type":
			if progs {
				return at + 1
			}
		case "prog":
			progs = true
		case "instruction":
			if !progs {
				return at + 1
			}
		}
	}
	return 0
}

// unitOf is the second reading of what the text of a unit says.
func unitOf(text string) api.Unit {
	var u api.Unit
	for _, line := range strings.Split(strings.TrimSuffix(text, "\n"), "\n") {
		words := strings.Split(line, " ")
		var list []int
		for _, w := range words[1:] {
			n, _ := strconv.ParseInt(w, 10, 64)
			list = append(list, int(n))
		}
		switch kindOf(line) {
		case "type":
			u.Types = append(u.Types, api.Type{Kind: list[0], Res: list[1] != 0, Kids: list[2:]})
		case "prog":
			u.Progs = append(u.Progs, api.Prog{Params: list[0], Slots: list[1], Caps: list[2], Res: list[3] != 0})
		case "instruction":
			p := len(u.Progs) - 1
			u.Progs[p].Code = append(u.Progs[p].Code, insOf(words[0], list))
		}
	}
	return u
}

func insOf(name string, list []int) api.Ins {
	for _, l := range table {
		if l.name != name {
			continue
		}
		i := api.Ins{Op: l.op}
		if strings.Contains(l.has, "A") {
			i.A, list = list[0], list[1:]
		}
		if strings.Contains(l.has, "B") {
			i.B, list = list[0], list[1:]
		}
		i.List = list
		return i
	}
	return api.Ins{}
}

// textOf is the second reading of Print; false, if it refuses the unit.
func textOf(u api.Unit) (string, bool) {
	var lines []string
	for _, t := range u.Types {
		lines = append(lines, spaced("type", append([]int{t.Kind, one(t.Res)}, t.Kids...)))
	}
	for _, p := range u.Progs {
		lines = append(lines, spaced("prog", []int{p.Params, p.Slots, p.Caps, one(p.Res)}))
		for _, i := range p.Code {
			if i.Op < 1 || i.Op > len(table) {
				return "", false
			}
			l := table[i.Op-1]
			var list []int
			for _, f := range []struct {
				field string
				list  []int
				empty bool
			}{{"A", []int{i.A}, i.A == 0}, {"B", []int{i.B}, i.B == 0}, {"L", i.List, len(i.List) == 0}} {
				if strings.Contains(l.has, f.field) {
					list = append(list, f.list...)
				} else if !f.empty {
					return "", false
				}
			}
			lines = append(lines, spaced(l.name, list))
		}
	}
	return strings.Join(append(lines, ""), "\n"), true
}

func one(is bool) int {
	if is {
		return 1
	}
	return 0
}

func spaced(word string, list []int) string {
	words := []string{word}
	for _, n := range list {
		words = append(words, strconv.FormatInt(int64(n), 10))
	}
	return strings.Join(words, " ")
}

// same holds two units against each other: a nil list and an empty one are the same.
func same(a, b api.Unit) bool {
	if len(a.Types) != len(b.Types) || len(a.Progs) != len(b.Progs) {
		return false
	}
	for i, t := range a.Types {
		if s := b.Types[i]; t.Kind != s.Kind || t.Res != s.Res || !sameInts(t.Kids, s.Kids) {
			return false
		}
	}
	for i, p := range a.Progs {
		q := b.Progs[i]
		if p.Params != q.Params || p.Slots != q.Slots || p.Caps != q.Caps || p.Res != q.Res || len(p.Code) != len(q.Code) {
			return false
		}
		for j, x := range p.Code {
			if y := q.Code[j]; x.Op != y.Op || x.A != y.A || x.B != y.B || !sameInts(x.List, y.List) {
				return false
			}
		}
	}
	return true
}

func sameInts(a, b []int) bool {
	if len(a) != len(b) {
		return false
	}
	for i := range a {
		if a[i] != b[i] {
			return false
		}
	}
	return true
}

func isEmpty(u api.Unit) bool { return len(u.Types)+len(u.Progs) == 0 }
