package host_test

import (
	"slices"
	"strings"
	"testing"
	"unsafe"

	"squint/api"
	"squint/host"
)

// busy is a source whose run tells all kinds of events but EvSpent, and several lists.
const (
	busy      = "{ val z = make chan of int; val f = prog() { <-z; }; begin f(); begin f(); } val c = make chan of int; begin prog() { c <-= 7; }(); <-c; <-input; output <-= 5; val t = [1][1];"
	busyPicks = "step 0, step 0, step 0, step 0, probe, step 0, probe, step 0, in 0 4, probe, out 0, step 0, out 0, step 0, step 0, step 0, probe"
	busyTells = "born 0 1, born 0 2, born 0 3, probe 1 2, meet 3 0 0 0 4, probe 1 2, in 0 0 4, probe 1 2, skip, out 0 0 5, trap 0 index, exit 3, idle, probe 1 2"
)

// roomy is a list with room behind it, in which something stands.
func roomy[T any](list []T, one T) []T {
	out := slices.Repeat([]T{one}, len(list)+9)
	copy(out, list)
	return out[:len(list)]
}

// R4: what is handed in stays as it is, and the room behind it.
func TestHandedIn(t *testing.T) {
	told(t, busy, hundred(), busyPicks, busyTells)
	for _, text := range []string{busy, "", rightSource, "1 + ;", "output <-= true;", "\xff", strings.Repeat("(", 65537)} {
		for _, l := range []api.Limits{hundred(), turned(hundred(), 3, 1), {}} {
			for _, list := range [][]api.Pick{picks(busyPicks), nil, make([]api.Pick, 4097)} {
				for _, reap := range []bool{false, true} {
					for _, f := range faces {
						src := roomy([]byte(text), '$')
						s := api.Script{Limits: l, Reap: reap, Picks: roomy(list, api.Pick{Kind: 4711})}
						first, e := f.run(src, s)
						if string(src[:cap(src)]) != text+"$$$$$$$$$" || !slices.Equal(s.Picks, list) {
							t.Errorf("%s changes what it is handed: %q, %v", f.name, src, s.Picks)
						}
						for _, p := range s.Picks[len(list):cap(s.Picks)] {
							if p != (api.Pick{Kind: 4711}) {
								t.Errorf("%s changes the room behind the picks: %v", f.name, p)
							}
						}
						was := show(first, e)
						for k := range src {
							src[k] = '!'
						}
						clear(s.Picks)
						if now := show(first, e); now != was {
							t.Errorf("%s: the answer changes with what was handed in: %s, then %s", f.name, was, now)
						}
					}
				}
			}
		}
	}
	src := roomy([]byte(rightSource), '$')
	host.Text(src, head+"step 0\n")
	if string(src[:cap(src)]) != rightSource+"$$$$$$$$$" {
		t.Errorf("Text changes what it is handed: %q", src[:cap(src)])
	}
}

// span is where a list stands, with the room behind it.
type span struct{ from, to uintptr }

func spanOf[T any](l []T) span {
	from := uintptr(unsafe.Pointer(unsafe.SliceData(l)))
	return span{from, from + uintptr(cap(l))*unsafe.Sizeof(*new(T))}
}

func spans(r api.Result) []span {
	out := []span{spanOf(r.Events)}
	for _, e := range r.Events {
		out = append(out, spanOf(e.List))
	}
	return out
}

// spoil writes over all that an answer has, and over the room behind it.
func spoil(r api.Result) {
	for _, e := range r.Events {
		for k := range e.List[:cap(e.List)] {
			e.List[:cap(e.List)][k] = 4711
		}
	}
	for k := range r.Events[:cap(r.Events)] {
		r.Events[:cap(r.Events)][k] = api.Event{Kind: 4711}
	}
}

// R4: what was answered is the caller's own: no two lists share memory, and nothing shows what is written there.
func TestAnswersOwn(t *testing.T) {
	for _, reap := range []bool{false, true} {
		s := api.Script{Limits: hundred(), Reap: reap, Picks: picks(busyPicks)}
		var answers []api.Result
		var texts []string
		var all []span
		for range 3 {
			for _, f := range faces {
				r, e := f.run([]byte(busy), s)
				answers, texts, all = append(answers, r), append(texts, show(r, e)), append(all, spans(r)...)
			}
		}
		for k, a := range all {
			for _, b := range all[:k] {
				if a.from < b.to && b.from < a.to {
					t.Fatal("two lists share memory")
				}
			}
		}
		for k, r := range answers {
			spoil(r)
			for after := k + 1; after < len(answers); after++ {
				if now := show(answers[after], api.OK); now != texts[after] {
					t.Errorf("an answer shows what was written to another: %s, then %s", texts[after], now)
				}
			}
			for _, f := range faces {
				if got := show(f.run([]byte(busy), s)); got != texts[0] {
					t.Errorf("%s: a later answer is another one: %s, not %s", f.name, got, texts[0])
				}
			}
		}
	}
}

// R5: calls that are made at the same time do not see each other.
func TestAtOnce(t *testing.T) {
	s := api.Script{Limits: hundred(), Picks: picks(busyPicks)}
	want := show(result(t, busyTells), api.OK)
	got := make(chan string)
	for range 8 {
		for _, f := range faces {
			go func() { got <- show(f.run([]byte(busy), s)) }()
		}
	}
	for range 16 {
		if one := <-got; one != want {
			t.Errorf("at once: %s, not %s", one, want)
		}
	}
}
