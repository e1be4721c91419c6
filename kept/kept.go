// Package kept has values as processes keep them: nothing in one is ever changed once it is made, so that whoever has it, calls, clones and children, may share what stands in it.
package kept

import (
	"slices"

	"squint/api"
)

// Value is an api.Value, but that its list stands in another form.
type Value struct {
	Kind, Num int
	in        *inside // nil: nothing stands in it
}

// Channel is the channel of a number.
func Channel(num int) Value { return Value{Kind: api.VChan, Num: num} }

// Int is a number.
func Int(num int) Value { return Value{Kind: api.VInt, Num: num} }

// Bool is a bool, as its number.
func Bool(num int) Value { return Value{Kind: api.VBool, Num: num} }

// Make is a value with copies of these in it; false: it has more cells than are left.
func Make(kind, num int, list []Value, left int) (Value, bool) {
	// Counted down from what is left, as a sum might be more than a number can be.
	for _, one := range list {
		if one.Cells() >= left {
			return Value{}, false
		}
		left -= one.Cells()
	}
	if left < 1 {
		return Value{}, false
	}
	return Value{kind, num, listed(slices.Clone(list))}, true
}

// Fill is an array of so many of one value; false: it has more cells than are left.
func Fill(many int, one Value, left int) (Value, bool) {
	if left < 1 || many > (left-1)/one.Cells() {
		return Value{}, false
	}
	return Value{api.VArray, 0, alike(many, one)}, true
}

// Within tells whether it is a value, and has no more cells than are left.
func (v Value) Within(left int) (Value, bool) {
	if v.Kind == api.VNone || v.Cells() > left {
		return Value{}, false
	}
	return v, true
}

// Many is how many values stand in it.
func (v Value) Many() int {
	if v.in == nil {
		return 0
	}
	return v.in.many
}

// At is one of the values that stand in it.
func (v Value) At(k int) Value { return v.in.at(k) }

// Cells is how many it has.
func (v Value) Cells() int {
	if v.in == nil {
		return 1
	}
	return 1 + v.in.cells
}

// Head is what operators look at.
func (v Value) Head() api.Value { return api.Value{Kind: v.Kind, Num: v.Num} }

// hasChannel tells whether it is a channel, or one stands in it.
func (v Value) hasChannel() bool {
	return v.Kind == api.VChan || v.in != nil && v.in.channel
}
