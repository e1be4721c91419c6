package check_test

import (
	"strings"
	"testing"

	"squint/api"
	"squint/tree"
)

// broken is which error was told at a node of which kind.
type broken struct {
	kind int
	code api.Errno
}

// wantAllBroken: each error at each kind of node that may have it.
func wantAllBroken(t *testing.T, seen map[broken]int, times int) {
	t.Helper()
	for kind := api.EInt; kind <= api.NProgram; kind++ {
		for _, code := range asked[kind] {
			if one := (broken{kind, code}); seen[one] < times {
				t.Errorf("only %d programs with %d at a node of the kind %d", seen[one], code, kind)
			}
		}
	}
	if none := (broken{}); seen[none] < 100*times {
		t.Errorf("only %d programs were taken", seen[none])
	}
}

// P6.1 to P6.5
func TestMadePrograms(t *testing.T) {
	seen := map[broken]int{}
	eachProgram(t, 1, 15000, func(m *maker, l []api.Node) {
		_, _, f, kind := wantRead(t, l)
		if m.odd == 0 && f.Code != api.OK {
			text, _ := tree.Print(l)
			t.Fatalf("a right program, %q: %v", text, f)
		}
		seen[broken{kind, f.Code}]++
	})
	wantAllBroken(t, seen, 5)
}

// otherwise puts something else in the place of what stands alone, and of signs; now and then.
func (m *maker) otherwise(l []api.Node) []api.Node {
	out := copyOf(l)
	for i := range out {
		if m.IntN(12) > 0 {
			continue
		}
		one := &out[i]
		switch one.Kind {
		case api.EInt, api.EBool, api.EName:
			*one = []api.Node{{Kind: api.EInt, Num: 3}, {Kind: api.EBool}, {Kind: api.EName, Name: "output"}, {Kind: api.EName, Name: "a"}, {Kind: api.EName, Name: "b"}}[m.IntN(5)]
			one.At = l[i].At
		case api.TInt, api.TBool:
			one.Kind = api.TInt + api.TBool - one.Kind
		case api.TName:
			one.Name = m.one("I", "J", "T", "U", "R", "L", "F")
		case api.TArray:
			one.Kind = api.TChan
		case api.EUnary:
			one.Num = 1 + m.IntN(3)
		case api.EField:
			one.Num = m.IntN(3)
		case api.EBin:
			one.Num = []int{api.OpOr, api.OpAnd, api.OpEq, api.OpNe, api.OpLt, api.OpGe, api.OpAdd, api.OpMul, api.OpMod}[m.IntN(9)]
		}
		if _, code := tree.Check(out); code != api.OK {
			*one = l[i]
		}
	}
	return out
}

func TestChangedPrograms(t *testing.T) {
	seen := map[api.Errno]int{}
	eachProgram(t, 2, 12000, func(m *maker, l []api.Node) {
		_, _, f, _ := wantRead(t, m.otherwise(l))
		seen[f.Code]++
	})
	for _, code := range []api.Errno{api.OK, api.ErrKindOpen, api.ErrScopeName, api.ErrScopeSet, api.ErrCheckType, api.ErrCheckKind, api.ErrCheckMany, api.ErrCheckNone, api.ErrCheckReturn, api.ErrCheckIdle} {
		if seen[code] < 20 {
			t.Errorf("only %d programs with %d", seen[code], code)
		}
	}
}

// grown are the expressions that are those of two lists with something about them: one of the first alone, or one of each, in both orders.
func grown(some, others []string) []string {
	var out []string
	for _, x := range some {
		x = "(" + x + ")"
		out = append(out, x, "-"+x, "!"+x, "<-"+x, "len"+x, x+"()", x+".1", "["+x+"]", "prog(): int { return "+x+"; }")
		for _, y := range others {
			y = "(" + y + ")"
			for _, two := range [][2]string{{x, y}, {y, x}} {
				x, y := two[0], two[1]
				out = append(out, x+" + "+y, x+" == "+y, x+" && "+y, x+" < "+y, x+"["+y+"]", x+"("+y+")", "("+x+", "+y+")", "["+x+", "+y+"]", "fill("+x+", "+y+")")
			}
		}
	}
	return out
}

// All expressions of a few pieces.
func TestSmallExpressions(t *testing.T) {
	leaves := []string{"1", "true", "p", "f()", "f", "g", "a", "c"}
	seen := map[broken]int{}
	hold := func(statement string) {
		l := parsed(t, "val p = (1, true); val f = prog() { }; val g = prog(n: int): bool { return n > 0; }; val a = [true]; val c = make chan of int; "+statement)
		_, _, f, kind := wantRead(t, l)
		seen[broken{kind, f.Code}]++
	}
	small := append(grown(leaves, leaves), leaves...)
	for _, e := range small {
		for _, about := range []string{"val z = X;", "X;", "begin X;", "return X;", "if X { }", "while X { 1; }", "c <-= X;", "X <-= 1;", "var z: int = X;", "X = X;", "val h = prog(): bool { return X; };", "val h = prog(): int { if X { return 1; } };", "select { case z = <-(X) { val y = z + 1; } case c <-= X { } case (X) <-= 1 { } }", "a[0] = X;", "p.0 = X;"} {
			hold(strings.ReplaceAll(about, "X", e))
		}
	}
	for _, e := range grown(small, []string{"1", "f()"}) {
		hold("val z = " + e + ";")
	}
	for _, one := range []broken{{api.SSet, api.ErrCheckPlace}, {api.SVal, api.ErrCheckNone}, {api.EProg, api.ErrCheckMiss}, {api.NRecv, api.ErrCheckNone}, {api.NRecv, api.ErrCheckKind}, {api.EFill, api.ErrCheckType}, {api.ELen, api.ErrCheckNone}, {}} {
		if seen[one] < 3 {
			t.Errorf("only %d programs with %v", seen[one], one)
		}
	}
}
