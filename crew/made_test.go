package crew_test

import (
	"fmt"
	"testing"

	"squint/api"
	"squint/crew"
)

// wander makes so many calls of a crew and of the second reading, and of clones of them, which go their own ways.
func wander[P crew.Proc[P]](m *maker, x *twin[P], calls int) {
	x.t.Helper()
	others := []*twin[P]{x}
	for range calls {
		x := others[m.IntN(len(others))]
		m.choose(x.Count()).do(x, m.IntN(3) == 0)
		if m.IntN(30) == 0 && len(others) < 4 {
			others = append(others, x.Clone())
		}
	}
	for _, x := range others {
		x.stands()
	}
}

// enough tells whether each kind of event was seen so often.
func enough(t *testing.T, seen map[int]int, want int) {
	t.Helper()
	for kind := api.EvBorn; kind <= api.EvSpent; kind++ {
		if seen[kind] < want {
			t.Errorf("events of the kind %d: %d only", kind, seen[kind])
		}
	}
}

// All promises from P16.2 to P16.7, of processes that do anything that processes may.
func TestMadeActors(t *testing.T) {
	m := newMaker(1)
	seen := map[int]int{}
	for k := range 1500 {
		x := newTwin(t, fmt.Sprint("actor ", k), newActor(m.Uint64(), 1+m.IntN(12)), m.limits())
		x.seen = seen
		wander(m, x, 60)
	}
	enough(t, seen, 500)
}

// All promises from P16.2 to P16.7, of machines and of walks of made programs.
func TestMadePrograms(t *testing.T) {
	m := newMaker(2)
	seen := map[int]int{}
	for range 400 {
		src := m.program()
		x, y := newTwin(t, src, firstMachine(t, src), m.limits()), newTwin(t, src, firstWalk(t, src), m.limits())
		x.seen, y.seen = seen, seen
		wander(m, x, 50)
		wander(m, y, 50)
	}
	enough(t, seen, 40)
}
