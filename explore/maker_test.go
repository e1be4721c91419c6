package explore_test

import (
	"math/rand/v2"

	"squint/api"
)

// maker makes programs of processes that speak to each other, of which nothing is wrong; and limits.
type maker struct{ *rand.Rand }

func newMaker(seed uint64) maker { return maker{rand.New(rand.NewPCG(seed, 2020))} }

func (m maker) one(of ...string) string { return of[m.IntN(len(of))] }

// channel is one of those that the head of each program makes, or the world's, or none.
func (m maker) channel() string {
	return m.one("c", "c", "c", "d", "d", "input", "output", "none", "(<-e)")
}

func (m maker) arm(deep int) string {
	switch m.IntN(4) {
	case 0:
		return "case " + m.one("c", "d", "input") + " <-= " + m.one("0", "1", "len([1, 2])") + " " + m.block(deep)
	case 1:
		return "case x = <-" + m.channel() + " " + m.block(deep)
	case 2:
		return "case e <-= " + m.one("c", "d") + " " + m.block(deep)
	}
	return "case <-" + m.channel() + " " + m.block(deep)
}

func (m maker) arms(deep int) (out string) {
	for range m.IntN(4) {
		out += m.arm(deep) + " "
	}
	return out
}

func (m maker) block(deep int) string { return "{ " + m.statements(m.IntN(3), deep-1) + "}" }

// alone is a statement by which nobody begins and nobody waits.
func (m maker) alone(deep int) string {
	switch m.IntN(9) {
	case 0:
		return "tick();"
	case 1:
		return "{ val x = fill(" + m.one("0", "1", "2", "3", "8", "1000", "0 - 1") + ", 0); }"
	case 2:
		return "{ val x = make chan of int; }"
	case 3:
		return "{ val x = [1, 2][" + m.one("0", "1", "2") + "]; }"
	case 4:
		return "{ val x = 1 / " + m.one("0", "1", "2", "3") + "; }"
	case 5:
		return "prog down(n: int) { if n > 0 { down(n - 1); } }(" + m.one("0", "1", "2", "9") + ");"
	case 6:
		return "{ var f: prog(); " + m.one("", "f();", "f = tick; f();") + " }"
	case 7:
		return "while " + m.one("true", "false") + " { " + m.alones(m.IntN(3), deep-1) + "}"
	}
	return "if c == " + m.one("c", "d") + " { " + m.alones(m.IntN(3), deep-1) + "} else { " + m.alones(m.IntN(2), deep-1) + "}"
}

func (m maker) alones(many, deep int) string { return pieces(many, deep, m.alone) }

func (m maker) statement(deep int) string {
	switch k := m.IntN(20); {
	case k < 6:
		return "begin prog() { " + m.statements(1+m.IntN(3), deep-1) + "}();"
	case k < 9:
		return m.one("c", "d", "c", "output") + " <-= 1;"
	case k < 12:
		return "<-" + m.channel() + ";"
	case k < 14:
		return "select { " + m.arms(deep) + "}"
	case k < 15:
		return "e <-= " + m.channel() + ";"
	case k < 16:
		return "while true " + m.block(deep)
	case k < 17:
		return "{ val c = make chan of int; " + m.statements(m.IntN(4), deep-1) + "}"
	}
	return m.alone(deep)
}

func (m maker) statements(many, deep int) string { return pieces(many, deep, m.statement) }

func pieces(many, deep int, one func(deep int) string) (out string) {
	for range many {
		if deep > 0 {
			out += one(deep) + " "
		}
	}
	return out
}

// head declares what made programs use.
const head = "val tick = prog() { }; var nil: chan of int; val none = nil; val c = make chan of int; val d = make chan of int; "

// program is a made source that begins so many processes ahead of all else.
func (m maker) program(begins int) string {
	src := head + "val e = make chan of chan of int; "
	for range begins {
		src += "begin prog() { " + m.statements(1+m.IntN(4), 3) + "}(); "
	}
	return src + m.statements(1+m.IntN(5), 4)
}

// plain is a made source that begins no process and waits for nobody.
func (m maker) plain() string {
	return head + m.alones(m.IntN(6), 3)
}

// limits are mostly great ones; else some of them are small.
func (m maker) limits() api.Limits {
	l := hundred()
	l.Depth = 5
	if m.IntN(2) == 0 {
		return l
	}
	for k := range 6 {
		if m.IntN(3) == 0 {
			l = turned(l, k, 1+m.IntN(7))
		}
	}
	return l
}
