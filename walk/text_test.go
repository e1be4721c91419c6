package walk_test

import (
	"strconv"
	"strings"

	"squint/api"
)

// text is a value, written down.
func text(v api.Value) string {
	var parts []string
	for _, part := range v.List {
		parts = append(parts, text(part))
	}
	all := strings.Join(parts, " ")
	num := strconv.Itoa(v.Num)
	switch {
	case v.Kind == api.VInt && all == "":
		return num
	case v.Kind == api.VBool && all == "" && v.Num == 0:
		return "false"
	case v.Kind == api.VBool && all == "" && v.Num == 1:
		return "true"
	case v.Kind == api.VChan && all == "":
		return "c" + num
	case v.Kind == api.VArray && v.Num == 0:
		return "[" + all + "]"
	case v.Kind == api.VTuple && v.Num == 0:
		return "(" + all + ")"
	case v.Kind == api.VProg:
		return "p" + num + "<" + all + ">"
	case v.Kind == api.VNone && v.Num == 0 && all == "":
		return "none"
	}
	return "odd" + strconv.Itoa(v.Kind) + ":" + num + "<" + all + ">"
}

// line is a pause, written down: what belongs to it, and, if there are any, how many cells were used.
func line(p api.Pause) string {
	var out []string
	switch p.Kind {
	case api.PTick:
		out = append(out, "tick")
	case api.PWait:
		out = append(out, "wait")
	case api.PExit:
		out = append(out, "exit")
	case api.PTrap:
		out = append(out, "trap")
	case api.PBorn:
		out = append(out, "born")
	case api.PMake:
		out = append(out, "make")
	case api.PSpent:
		out = append(out, "spent")
	default:
		out = append(out, "pause "+strconv.Itoa(p.Kind))
	}
	if p.Code != 0 {
		out = append(out, strconv.Itoa(p.Code))
	}
	for _, arm := range p.Arms {
		one := "?" + strconv.Itoa(arm.Chan)
		if arm.Send || arm.Value.Kind != api.VNone {
			one = "!" + strconv.Itoa(arm.Chan) + "=" + text(arm.Value)
		}
		out = append(out, one)
	}
	if p.Fn.Kind != api.VNone {
		out = append(out, text(p.Fn))
	}
	for _, arg := range p.Args {
		out = append(out, text(arg))
	}
	if p.Cells != 0 {
		out = append(out, "+"+strconv.Itoa(p.Cells))
	}
	return strings.Join(out, " ")
}
