package explore_test

import (
	"runtime"
	"slices"
	"strings"
	"testing"
	"time"

	"squint/api"
	"squint/explore"
)

// shared are programs with work for many workers: steps that are short and long, lists that are alike and unlike.
var shared = []struct {
	src   string
	depth int
}{
	{"", 5},
	{spinning(5), 5},
	{"val f = prog() { }; begin f(); begin f(); begin f(); begin f(); begin f(); begin f();", 5},
	{"val c = make chan of int; val f = prog() { select { case c <-= 1 { } case <-c { } } }; begin f(); begin f(); begin f(); f();", 5},
	{"val c = make chan of int; val f = prog() { val d = make chan of int; begin prog() { d <-= 1; }(); c <-= <-d; }; begin f(); begin f(); while true { <-c; }", 5},
	{"val c = make chan of array of int; val f = prog(a: array of int) { c <-= a; val x = 1 / 0; }; begin f(fill(50, 1)); begin f(fill(20, 2)); val b = <-c; val x = b[30];", 5},
	{"val g = prog() { <-input; }; val f = prog() { begin g(); begin g(); while true { val a = [1, 2, 3]; } }; begin f(); begin f(); begin f();", 4},
	{selectsAll, 4},
	{crowded, 4},
	{crowded, 2},
	{"1 + ;", 5},
}

const selectsAll = "val c = make chan of int; begin prog() { select { case <-c { } case <-c { } case <-c { } case c <-= 1 { } } }(); select { case c <-= 1 { } case c <-= 1 { } case <-c { } }"

// P20.3, R5: what is told does not hang on the workers, event for event, many times over, however goroutines run.
func TestWorkers(t *testing.T) {
	defer runtime.GOMAXPROCS(runtime.GOMAXPROCS(0))
	for _, x := range shared {
		want, code := explore.All([]byte(x.src), turned(hundred(), 4, 200), x.depth, 1)
		for turn := range 8 {
			runtime.GOMAXPROCS([]int{8, 1, 2, 16}[turn%4])
			for workers := 1; workers <= 16; workers++ {
				got, e := explore.All([]byte(x.src), turned(hundred(), 4, 200), x.depth, workers)
				if e != code || !alike(got, want) {
					t.Fatalf("%s\n %d deep, %d workers: %d, %d lists, not %d, %d", shorter(x.src), x.depth, workers, e, len(got), code, len(want))
				}
			}
		}
	}
}

// P20.3: made programs, by each number of workers.
func TestWorkersMade(t *testing.T) {
	m := newMaker(3)
	for range 150 {
		src, l, depth := m.program(m.IntN(6)), m.limits(), 2+m.IntN(4)
		want, code := explored(src, l, depth, 1)
		for workers := 2; workers <= 16; workers++ {
			if got, e := explored(src, l, depth, workers); e != code || !alike(got, want) {
				t.Fatalf("%s\n with %v, %d deep, %d workers: %d, %d lists, not %d, %d", src, l, depth, workers, e, len(got), code, len(want))
			}
		}
	}
}

// atWork are the goroutines that run anything of the project's, but for this one.
func atWork() (out []string) {
	text := make([]byte, 1<<20)
	text = text[:runtime.Stack(text, true)]
	for _, one := range strings.Split(string(text), "\n\n")[1:] {
		for _, name := range []string{"squint/explore.work", "squint/explore.errand", "squint/crew.", "squint/machine.", "squint/post."} {
			if strings.Contains(one, name) {
				out = append(out, one)
				break
			}
		}
	}
	return out
}

// P20.3, R5: all goroutines have ended when it answers: none is at work any more, and soon none is there; also where it answers an error, while others are at long work.
func TestGoroutinesEnd(t *testing.T) {
	long := "val g = prog() { }; val f = prog() { " + strings.Repeat("begin g(); ", 500) + "while true { } }; " + strings.Repeat("begin f(); ", 63) + "while true { }"
	ahead := runtime.NumGoroutine()
	for range 3 {
		for _, workers := range []int{1, 2, 3, 8, 16} {
			for _, x := range shared {
				explore.All([]byte(x.src), hundred(), x.depth, workers)
				if left := atWork(); len(left) > 0 {
					t.Fatalf("%s: goroutines that go on:\n%s", shorter(x.src), strings.Join(left, "\n"))
				}
			}
			explore.All([]byte("while true { }"), hundred(), 6, workers)
			explore.All([]byte("while true { }"), api.Limits{}, 5, workers)
			if _, e := explore.All([]byte(long), vast(), 3, workers); e != api.ErrExploreMany {
				t.Errorf("long work: %d", e)
			}
			if left := atWork(); len(left) > 0 {
				t.Fatalf("goroutines that go on behind an error:\n%s", strings.Join(left, "\n"))
			}
		}
	}
	// One that has done its last thing is counted till it is gone.
	for range 1000 {
		if runtime.NumGoroutine() <= ahead {
			return
		}
		time.Sleep(time.Millisecond)
	}
	t.Errorf("%d goroutines, %d ahead of it", runtime.NumGoroutine(), ahead)
}

// R5: calls that are made at the same time do not see each other.
func TestAtOnce(t *testing.T) {
	type answer struct {
		at    int
		lists [][]api.Event
		code  api.Errno
	}
	got := make(chan answer)
	many := 0
	for range 5 {
		for k, x := range shared {
			many++
			go func() {
				lists, e := explore.All([]byte(x.src), hundred(), x.depth, 1+k%16)
				got <- answer{k, lists, e}
			}()
		}
	}
	seen := slices.Repeat([]answer{{at: -1}}, len(shared))
	for range many {
		one := <-got
		first := seen[one.at]
		if first.at < 0 {
			seen[one.at] = one
		} else if one.code != first.code || !alike(one.lists, first.lists) {
			t.Errorf("%s: two answers: %d, %d", shorter(shared[one.at].src), one.code, first.code)
		}
	}
	for k, x := range shared {
		if lists, e := explore.All([]byte(x.src), hundred(), x.depth, 4); e != seen[k].code || !alike(lists, seen[k].lists) {
			t.Errorf("%s: another answer alone", shorter(x.src))
		}
	}
}
