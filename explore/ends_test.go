package explore_test

import (
	"testing"

	"squint/api"
)

// P20.1: runs that end ahead of the depth, since no transition is left: all have ended, or wait for the world, for nobody, for themselves, for each other.
func TestNothingLeft(t *testing.T) {
	for src, want := range map[string]string{
		"":                               "exit 0",
		"return;":                        "exit 0",
		"<-input;":                       "",
		"output <-= 5;":                  "",
		"select { }":                     "",
		"var c: chan of int; <-c;":       "",
		"val c = make chan of int; <-c;": "",
		"select { case input <-= 1 { } case <-input { } }":                     "",
		"prog() { }(); prog() { <-input; }();":                                 "",
		"val c = make chan of int; begin prog() { <-c; }(); <-c;":              "born 0 1",
		"var c: chan of int; begin prog(c: chan of int) { <-c; }(c); c <-= 1;": "born 0 1",
	} {
		tells(t, src, hundred(), 4, want)
		tells(t, src, hundred(), 5, want)
	}
	// The world takes no part: input and output are met by processes alone.
	tells(t, "begin prog() { input <-= 3; }(); val x = <-input; output <-= x;", hundred(), 5, "born 0 1, meet 1 0 0 0 1, exit 1")
}

// P20.1: a process that traps has ended; the others go on.
func TestTraps(t *testing.T) {
	for src, want := range map[string]string{
		"val x = 1 / 0;":                          "trap 0 divide",
		"val x = 1 % 0;":                          "trap 0 divide",
		"val x = [1][1];":                         "trap 0 index",
		"val x = fill(-1, 1);":                    "trap 0 fill",
		"var f: prog(); f();":                     "trap 0 nil",
		"var f: prog(); begin f();":               "trap 0 nil",
		"prog() { }(); val x = [1][-1]; <-input;": "trap 0 index",
	} {
		for depth := 2; depth <= 5; depth++ {
			tells(t, src, hundred(), depth, want)
		}
	}
	tells(t, "begin prog() { val x = [1][1]; }(); val x = 1 / 0;", hundred(), 1, "born 0 1, trap 0 divide")
	tells(t, "begin prog() { val x = [1][1]; }(); val x = 1 / 0;", hundred(), 5, "born 0 1, trap 0 divide, trap 1 index")
	tells(t, "begin prog() { val x = [1][1]; }(); prog() { }(); val x = 1 / 0;", hundred(), 5, "born 0 1, trap 0 divide, trap 1 index", "born 0 1, trap 1 index, trap 0 divide")
}

// P20.1: a spent crew has no transition: the run ends, in each way in which a limit is passed, though others are ready; what was told ahead of that stays told.
func TestSpent(t *testing.T) {
	for _, x := range []struct {
		src   string
		limit int
		n     int
		want  []string
	}{
		{"begin prog() { }();", 0, 1, []string{"spent 0 procs"}},
		{"val f = prog() { }; begin f(); begin f();", 0, 2, []string{"born 0 1, spent 0 procs"}},
		{"val f = prog() { }; begin f(); begin f();", 1, 2, []string{"born 0 1, spent 0 live"}},
		{"val c = make chan of int;", 2, 0, []string{"spent 0 chans"}},
		{"begin prog() { }(); val c = make chan of int; val d = make chan of int;", 2, 1, []string{"born 0 1, spent 0 chans"}},
		{"while true { }", 3, 2, []string{"spent 0 ticks"}},
		{"val f = prog() { }; begin f(); val t = (1, 2);", 4, 3, []string{"born 0 1, spent 0 cells"}},
		{"val f = prog() { }; begin f(); f();", 5, 1, []string{"born 0 1, spent 0 depth"}},
	} {
		for depth := 3; depth <= 5; depth++ {
			tells(t, x.src, turned(hundred(), x.limit, x.n), depth, x.want...)
		}
		if got, e := all(t, x.src, hundred(), 1, 1); e != api.OK || len(got) != 1 {
			t.Errorf("%s: %q, %d", x.src, got, e)
		}
	}
}

// P20.1: who is first passes no limit, who is second does; and what the one has used the other one misses.
func TestWhoSpends(t *testing.T) {
	two := "val f = prog() { val c = make chan of int; while true { } }; begin f(); begin f();"
	tells(t, two, turned(hundred(), 2, 1), 3, "born 0 1, born 0 2, exit 0", "born 0 1, born 0 2, exit 0, spent 1 chans", "born 0 1, born 0 2, exit 0, spent 2 chans")
	cells := "begin prog() { val a = fill(20, 0); }(); begin prog() { val b = fill(30, 0); }();"
	ahead := "born 0 1, born 0 2, exit 0, "
	tells(t, cells, turned(hundred(), 4, 54), 5, ahead+"exit 1, exit 2", ahead+"exit 2, exit 1")
	tells(t, cells, turned(hundred(), 4, 53), 5, ahead+"exit 1, spent 2 cells", ahead+"exit 2, spent 1 cells")
	tells(t, cells, turned(hundred(), 4, 32), 5, ahead+"exit 1, spent 2 cells", ahead+"spent 2 cells")
	// One that has ended leaves room for another one to live.
	lives := "begin prog() { }(); prog() { }(); begin prog() { }();"
	tells(t, lives, turned(hundred(), 1, 2), 5, "born 0 1, exit 1, born 0 2, exit 0, exit 2", "born 0 1, spent 0 live")
}

// P20.2: runs that tell the same by other picks are told once.
func TestAlike(t *testing.T) {
	spin := "val spin = prog() { while true { } }; begin spin(); begin spin(); "
	for depth := 1; depth <= 5; depth++ {
		tells(t, spin+"spin();", hundred(), depth, "born 0 1, born 0 2")
	}
	tells(t, spin, hundred(), 5, "born 0 1, born 0 2, exit 0")
	// 1 and 2 tell nothing as they come to wait, in either order.
	wait := "val f = prog() { <-input; }; begin f(); begin f();"
	tells(t, wait, hundred(), 3, "born 0 1, born 0 2, exit 0")
	// When 1 ends is told, how far 2 has come is not.
	tells(t, "begin prog() { }(); begin prog() { while true { } }();", hundred(), 4,
		"born 0 1, born 0 2, exit 0", "born 0 1, born 0 2, exit 0, exit 1")
	// One list comes of an early end and of a late one.
	tells(t, "begin prog() { prog() { }(); <-input; }(); begin prog() { <-input; }();", hundred(), 5, "born 0 1, born 0 2, exit 0")
}
