package code

// operation is an instruction's Op: api's numbers, counted again so that the table below stands in their order.
type operation int

const (
	opInt operation = 1 + iota
	opBool
	opZero
	opLoad
	opStore
	opClear
	opCap
	opSelf
	opPop
	opTuple
	opArray
	opFill
	opLen
	opIndex
	opField
	opPart
	opUnary
	opBin
	opJump
	opFalse
	opBack
	opProg
	opCall
	opBegin
	opRet
	opMake
	opWait
)

// has says which of A, B and List an operation has.
type has int

const (
	hasA has = 1 << iota
	hasB
	hasList
)

// shape is what all instructions of an operation have in common: takes and lays leave out what hangs on A, B and List.
type shape struct {
	name        string
	has         has
	takes, lays int
}

// shapes has at 0 the shape of no operation.
var shapes = [...]shape{
	opInt:   {"int", hasA, 0, 1},
	opBool:  {"bool", hasA, 0, 1},
	opZero:  {"zero", hasA, 0, 1},
	opLoad:  {"load", hasA, 0, 1},
	opStore: {"store", hasA, 1, 0},
	opClear: {"clear", hasA, 0, 0},
	opCap:   {"cap", hasA, 0, 1},
	opSelf:  {"self", 0, 0, 1},
	opPop:   {"pop", 0, 1, 0},
	opTuple: {"tuple", hasA, 0, 1},
	opArray: {"array", hasA, 0, 1},
	opFill:  {"fill", 0, 2, 1},
	opLen:   {"len", 0, 1, 1},
	opIndex: {"index", 0, 2, 1},
	opField: {"field", hasA, 1, 1},
	opPart:  {"part", hasA | hasList, 1, 0},
	opUnary: {"unary", hasA, 1, 1},
	opBin:   {"bin", hasA, 2, 1},
	opJump:  {"jump", hasA, 0, 0},
	opFalse: {"false", hasA, 1, 0},
	opBack:  {"back", hasA, 0, 0},
	opProg:  {"prog", hasA | hasB, 0, 1},
	opCall:  {"call", hasA | hasB, 1, 0},
	opBegin: {"begin", hasA, 1, 0},
	opRet:   {"ret", 0, 0, 0},
	opMake:  {"make", 0, 0, 1},
	opWait:  {"wait", hasList, 0, 0},
}

func shapeOf(op int) shape {
	if op < 0 || op >= len(shapes) {
		return shape{}
	}
	return shapes[op]
}

// first is how many numbers stand in an instruction's line ahead of List's.
func (s shape) first() int {
	many := 0
	if s.has&hasA != 0 {
		many++
	}
	if s.has&hasB != 0 {
		many++
	}
	return many
}
