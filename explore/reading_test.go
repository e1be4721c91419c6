package explore_test

import (
	"slices"
	"testing"

	"squint/api"
	"squint/crew"
	"squint/host"
	"squint/parse"
	"squint/walk"
)

// reading is all runs of a source, as scripts of steps tell them, one by one from their beginnings.
type reading struct {
	src   string
	l     api.Limits
	depth int
	play  func(src []byte, s api.Script) (api.Result, api.Errno)
	most  int // it stops behind so many ends
	ends  [][]api.Event
	ways  [][]api.Event // of each beginning of a run, those that came to their ends too
}

// read makes a reading; false, if there are more ends than it is to read.
func read(t *testing.T, r *reading) bool {
	t.Helper()
	r.on(t, nil)
	return len(r.ends) <= r.most
}

func (r *reading) run(t *testing.T, picks []api.Pick) api.Result {
	t.Helper()
	out, e := r.play([]byte(r.src), api.Script{Limits: r.l, Picks: picks})
	if e != api.OK || out.Fault.Code != api.OK {
		t.Fatal(r.src, e, out.Fault)
	}
	return out
}

// on goes on in all ways behind picks. Which numbers are below Count the events tell: any other one tells a skip, or that all is idle.
func (r *reading) on(t *testing.T, picks []api.Pick) {
	t.Helper()
	at := r.run(t, picks)
	r.ways = append(r.ways, at.Events)
	for n := 0; len(picks) < r.depth && !at.Spent && len(r.ends) <= r.most; n++ {
		more := append(slices.Clip(picks), api.Pick{Kind: api.PickStep, N: n})
		told := r.run(t, more).Events[len(at.Events):]
		if len(told) == 1 && told[0].Kind == api.EvSkip {
			return
		}
		if len(told) == 1 && told[0].Kind == api.EvIdle {
			break
		}
		r.on(t, more)
	}
	r.ends = append(r.ends, at.Events)
}

// onceEach are lists in their order, each once.
func onceEach(lists [][]api.Event) [][]api.Event {
	out := slices.Clone(lists)
	slices.SortFunc(out, func(a, b []api.Event) int { return slices.Compare(key(a), key(b)) })
	return slices.CompactFunc(out, func(a, b []api.Event) bool { return slices.Equal(key(a), key(b)) })
}

// alike tells whether lists are the same, event for event.
func alike(a, b [][]api.Event) bool {
	return slices.EqualFunc(a, b, func(a, b []api.Event) bool { return slices.Equal(key(a), key(b)) })
}

// starts tells whether a list begins with another one.
func starts(l, with []api.Event) bool {
	return len(with) <= len(l) && slices.Equal(key(l[:len(with)]), key(with))
}

// P20.1, P20.2, P20.4: what is told of made programs is what scripts of steps tell of them, by machines and by walks; and whatever steps are taken, their events begin one of the lists.
func TestScripts(t *testing.T) {
	m := newMaker(1)
	kinds := map[int]int{}
	great, early := 0, 0
	for turn := range 600 {
		r := &reading{src: m.program(m.IntN(5)), l: m.limits(), depth: m.IntN(6), most: 150, play: host.Run}
		if turn%2 == 0 {
			r.play = host.Walk
		}
		if !read(t, r) {
			continue
		}
		lists, e := explored(r.src, r.l, r.depth, 1+m.IntN(16))
		if want := onceEach(r.ends); e != api.OK || !alike(lists, want) {
			t.Fatalf("%s\n with %v, %d deep: %d\n %v\n not %v", r.src, r.l, r.depth, e, lists, want)
		}
		for _, way := range r.ways {
			if !slices.ContainsFunc(lists, func(l []api.Event) bool { return starts(l, way) }) {
				t.Fatalf("%s\n with %v, %d deep: no list begins with %v", r.src, r.l, r.depth, way)
			}
		}
		if len(r.ends) > len(lists) && len(lists) > 3 {
			great++
		}
		if deeper, _ := explored(r.src, r.l, 5, 4); r.depth < 5 && alike(deeper, lists) {
			early++
		}
		for _, l := range lists {
			for _, e := range l {
				kinds[e.Kind]++
			}
		}
	}
	for _, kind := range []int{api.EvBorn, api.EvMeet, api.EvExit, api.EvTrap, api.EvSpent} {
		if kinds[kind] < 100 {
			t.Errorf("events of the kind %d: %d only", kind, kinds[kind])
		}
	}
	if great < 30 || early < 30 {
		t.Errorf("%d programs of many runs, %d that end ahead of the depth", great, early)
	}
}

// walked are the events of all runs of a source by a crew of walks, up to MaxEnds and one more.
func walked(t *testing.T, src string, l api.Limits, depth int) (ends [][]api.Event) {
	t.Helper()
	nodes, fault := parse.Parse([]byte(src), l.Nest)
	first, wrong := walk.New(nodes)
	if fault.Code != api.OK || wrong.Code != api.OK {
		t.Fatal(src, fault, wrong)
	}
	c, e := crew.New(first, l)
	if e != api.OK {
		t.Fatal(l, e)
	}
	var on func(c *crew.Crew[*walk.Walker], told []api.Event, left int)
	on = func(c *crew.Crew[*walk.Walker], told []api.Event, left int) {
		if left == 0 || c.Count() == 0 {
			ends = append(ends, told)
			return
		}
		for n := 0; n < c.Count() && len(ends) <= api.MaxEnds; n++ {
			d := c.Clone()
			on(d, append(slices.Clip(told), d.Step(n)...), left-1)
		}
	}
	on(c, nil, depth)
	return ends
}

// P20.1, P20.2: made programs with many runs: all that there are, or that there are too many.
func TestManyRuns(t *testing.T) {
	m := newMaker(2)
	many, great := 0, 0
	for range 250 {
		src, l, depth := m.program(m.IntN(12)), hundred(), 3+m.IntN(3)
		ends := walked(t, src, l, depth)
		lists, e := explored(src, l, depth, 1+m.IntN(16))
		if len(ends) > 4096 {
			many++
			if e != api.ErrExploreMany || len(lists) > 0 {
				t.Fatalf("%s\n %d deep: %d, though there are more runs than may be", src, depth, e)
			}
			continue
		}
		if len(ends) > 500 {
			great++
		}
		if want := onceEach(ends); e != api.OK || !alike(lists, want) {
			t.Fatalf("%s\n %d deep, %d runs: %d, %d lists, not %d", src, depth, len(ends), e, len(lists), len(want))
		}
	}
	if many < 10 || great < 10 {
		t.Errorf("%d programs with too many runs, %d with nearly as many", many, great)
	}
}
