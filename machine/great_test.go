package machine_test

import (
	"math"
	"runtime/debug"
	"slices"
	"strings"
	"testing"

	"squint/api"
	"squint/machine"
)

// alone does the steps of a tale with a machine alone: the second reading lays out all that it has.
func alone(t *testing.T, x *machine.Machine, steps string) string {
	t.Helper()
	var out []string
	for _, step := range strings.Split(steps, ";") {
		r := &reader{strings.TrimSpace(step)}
		switch {
		case r.takes("run "):
			out = append(out, line(x.Run(r.number(), 9)))
		case r.takes("held"):
			out = append(out, numbers(x.Held()))
		case r.takes("clone"):
			x = x.Clone()
		case r.takes("fire "):
			x.Fire(0, r.value())
		default:
			t.Fatalf("no step: %q", step)
		}
	}
	return strings.Join(out, "; ")
}

// TestGreat: P11.7, R1: values with more parts than could be laid out are made, asked, set and passed on.
func TestGreat(t *testing.T) {
	for _, x := range [][3]string{
		{ // the edges of cells: 2^62 elements, set with a channel at both ends and in the middle
			"prog 0 1 2 0, int 4611686018427387904, int 7, fill, store 0, tick, int 0, cap 1, part 0 -1, tick, int 4611686018427387903, cap 0, part 0 -1, tick," +
				"cap 1, load 0, int 1, index, cap 1, load 0, int 4611686018427387902, index, cap 1, load 0, len, wait 1 end 1 end 1 end, end:, ret",
			"run 4611686018427387904; run 9",
			"spent 5; spent 5",
		},
		{
			"prog 0 1 2 0, int 4611686018427387903, int 7, fill, store 0, tick, int 0, cap 1, part 0 -1, tick, int 4611686018427387902, cap 0, part 0 -1, tick," +
				"cap 1, load 0, int 1, index, cap 1, load 0, int 0, index, cap 1, load 0, int 4611686018427387902, index, cap 1, load 0, len, wait 1 end 1 end 1 end 1 end, end:, ret",
			"run 4611686018427387904; run 4611686018427387904; run 4611686018427387904; held; clone; run 0; fire 0; run 0",
			"tick +4611686018427387904; tick +4611686018427387904; tick +4611686018427387904; 1 2; wait !2=7 !2=c2 !2=c1 !2=4611686018427387903; exit",
		},
		{ // a cell too few for the part
			"prog 0 1 2 0, int 1152921504606846976, int 7, fill, store 0, tick, int 0, int 1, part 0 -1, ret",
			"run 1152921504606846977; run 1152921504606846976",
			"tick +1152921504606846977; spent 5",
		},
		{ // no such element
			"prog 0 1 2 0, int 1152921504606846976, int 7, fill, store 0, tick, int 1152921504606846976, int 1, part 0 -1, ret",
			"run 1152921504606846977; run 1152921504606846976",
			"tick +1152921504606846977; trap 2",
		},
		{ // arrays in one another
			"prog 0 1 2 0, int 1073741824, int 1073741824, int 7, fill, fill, store 0, int 1073741823, int 5, int 3, part 0 -1 -1," +
				"cap 1, load 0, int 1073741823, index, int 5, index, cap 1, load 0, int 1073741822, index, int 5, index, wait 1 end 1 end, end:, ret",
			"run 9223372036854775807",
			"wait !2=3 !2=7 +2305843012434919427",
		},
		{ // a prog that captured one, called and asked
			"prog 0 1 2 0, int 1152921504606846976, cap 0, fill, prog 1 1, store 0, cap 1, load 0, call 0 1, wait 1 end, end:, ret, prog 0 0 1 1, cap 0, int 9, index, ret",
			"run 9223372036854775807; held; run 0",
			"tick +2305843009213693955; 1 2; wait !2=c1",
		},
		{ // default values that double each other
			doubling(60) + "prog 0 1 2 0, zero 60, store 0, cap 1, load 0" + strings.Repeat(", field 1", 60) + ", wait 1 end, end:, ret",
			"run 4611686018427387903; held",
			"wait !2=0 +2305843009213693951; 1 2",
		},
		{doubling(70) + "prog 0 0 2 0, zero 62, pop, ret", "run 9223372036854775807", "exit +9223372036854775807"},
		{doubling(70) + "prog 0 0 2 0, zero 62, pop, ret", "run 9223372036854775806", "spent 5"},
		{doubling(70) + "prog 0 0 2 0, zero 63, pop, ret", "run 9223372036854775807", "spent 5"},
		{doubling(70) + "prog 0 0 2 0, zero 70, pop, ret", "run 9223372036854775807", "spent 5"},
		{doubling(70) + "prog 0 0 2 0, int 1, int 1, tuple 2, pop, zero 62, pop, ret", "run 9223372036854775807", "spent 5 +3"},
	} {
		if got := alone(t, begun(t, unitOf(t, x[0])), x[1]); got != x[2] {
			t.Errorf("%s\n%s:\n%s, not\n%s", x[0], x[1], got, x[2])
		}
	}
}

// doubling are types: a number, and tuples of the one ahead twice.
func doubling(many int) string {
	var out strings.Builder
	out.WriteString("type 1 0,")
	for k := range many {
		out.WriteString(" type 4 0 " + numbers([]int{k, k}) + ",")
	}
	return out.String()
}

// nest is a value in so many arrays.
func nest(v api.Value, deep int) api.Value {
	for range deep {
		v = array(v)
	}
	return v
}

// bottom is what stands in so many arrays.
func bottom(t *testing.T, v api.Value, deep int) string {
	t.Helper()
	for k := range deep {
		if v.Kind != api.VArray || v.Num != 0 || len(v.List) != 1 {
			t.Fatalf("at %d: kind %d, %d in it", k, v.Kind, len(v.List))
		}
		v = v.List[0]
	}
	return text(v)
}

// TestDeepValues: P11.7, R1: values in one another, deeper than calls could go, are made, given, fired, begun with, sent, held and told.
func TestDeepValues(t *testing.T) {
	const deep = 1 << 16
	defer debug.SetMaxStack(debug.SetMaxStack(1 << 20))
	u := unitOf(t, "prog 0 1 2 0, make, store 0, cap 0, wait 0 next, next:"+strings.Repeat(", array 1", deep)+", store 0, prog 1 0, load 0, begin 1,"+
		"cap 1, load 0, wait 1 end, end:, ret, prog 1 1 0 0, load 0, load 0, wait 1 end, end:, ret")
	x := begun(t, u)
	x.Run(1, 1)
	x.Give(nest(channel(5), deep))
	if got := x.Held(); !slices.Equal(got, []int{1, 2, 5}) {
		t.Fatal(got)
	}
	x.Run(1, 1)
	x.Fire(0, nest(channel(6), deep))
	if got := x.Held(); !slices.Equal(got, []int{1, 2, 5, 6}) {
		t.Fatal(got)
	}
	p := x.Run(math.MaxInt, 1)
	if p.Kind != api.PBorn || len(p.Args) != 1 || bottom(t, p.Args[0], 2*deep) != "c6" {
		t.Fatal(p.Kind, len(p.Args))
	}
	y := x.Child(p.Fn, p.Args)
	if got := y.Held(); !slices.Equal(got, []int{6}) {
		t.Fatal(got)
	}
	if p := y.Run(9, 9); p.Kind != api.PTrap || p.Code != api.TrapWrong {
		t.Fatal(p.Kind, p.Code)
	}
	for range 2 {
		p = x.Run(9, 1)
		if p.Kind != api.PWait || len(p.Arms) != 1 || bottom(t, p.Arms[0].Value, 2*deep) != "c6" {
			t.Fatal(p.Kind, len(p.Arms))
		}
	}
	if got := x.Clone().Held(); !slices.Equal(got, []int{1, 2, 6}) {
		t.Fatal(got)
	}
}
