package machine_test

import (
	"fmt"
	"strconv"
	"strings"
	"testing"

	"squint/api"
)

// reader reads values as text writes them.
type reader struct{ left string }

func (r *reader) number() int {
	end := 0
	for end < len(r.left) && strings.IndexByte("-0123456789", r.left[end]) >= 0 {
		end++
	}
	n, _ := strconv.Atoi(r.left[:end])
	r.left = r.left[end:]
	return n
}

func (r *reader) takes(head string) bool {
	rest, ok := strings.CutPrefix(r.left, head)
	r.left = rest
	return ok
}

func (r *reader) list(end string) []api.Value {
	var out []api.Value
	for !r.takes(end) {
		out = append(out, r.value())
		r.takes(" ")
	}
	return out
}

func (r *reader) value() api.Value {
	switch {
	case r.takes("none"):
		return api.Value{}
	case r.takes("true"):
		return truth(true)
	case r.takes("false"):
		return truth(false)
	case r.takes("c"):
		return channel(r.number())
	case r.takes("["):
		return array(r.list("]")...)
	case r.takes("("):
		return tuple(r.list(")")...)
	case r.takes("p"):
		n := r.number()
		r.takes("<")
		return prog(n, r.list(">")...)
	case r.takes("odd"):
		kind := r.number()
		r.takes(":")
		n := r.number()
		r.takes("<")
		return api.Value{Kind: kind, Num: n, List: r.list(">")}
	}
	return number(r.number())
}

func valueOf(text string) api.Value {
	r := &reader{text}
	return r.value()
}

// numbers are those of a list, parted by blanks.
func numbers(list []int) string {
	if len(list) == 0 {
		return "none"
	}
	return strings.Trim(fmt.Sprint(list), "[]")
}

// tale does steps, parted by semicolons, with a machine and the second reading of it, and tells what is answered:
// run CELLS DEPTH, held, give VALUE, fire ARM VALUE, child PROG ARGUMENTS (a tuple: the steps behind are of the new one), clone (likewise), back (the steps behind are of the one of which the last one was made).
func tale(t *testing.T, u api.Unit, steps string) string {
	t.Helper()
	var out []string
	all := []pair{newPair(t, u)}
	for _, step := range strings.Split(steps, ";") {
		p := all[len(all)-1]
		r := &reader{strings.TrimSpace(step)}
		switch {
		case r.takes("run "):
			cells := r.number()
			r.takes(" ")
			out = append(out, line(p.Run(cells, r.number())))
		case r.takes("held"):
			out = append(out, numbers(p.held()))
		case r.takes("give "):
			p.Give(r.value())
		case r.takes("fire "):
			arm := r.number()
			r.takes(" ")
			p.Fire(arm, r.value())
		case r.takes("child "):
			fn := r.value()
			r.takes(" ")
			all = append(all, p.Child(fn, r.value().List))
		case r.takes("clone"):
			all = append(all, p.Clone())
		case r.takes("back"):
			all = all[:len(all)-1]
		default:
			t.Fatalf("no step: %q", step)
		}
		if r.left != "" {
			t.Fatalf("what is left of a step: %q", step)
		}
	}
	return strings.Join(out, "; ")
}

// tales are units, written down, steps and what they answer.
type tales [][3]string

func (all tales) try(t *testing.T) {
	t.Helper()
	for _, x := range all {
		if got := tale(t, unitOf(t, x[0]), x[1]); got != x[2] {
			t.Errorf("%s\n%s:\n%s, not\n%s", x[0], x[1], got, x[2])
		}
	}
}
