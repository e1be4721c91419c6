package explore

import (
	"slices"
	"sync"

	"squint/api"
)

// stand is a run as far as it has come, and how its crew stands then.
type stand struct {
	run  run
	crew *party // none, if the run has come to its end
	ways int    // how many transitions there are by which it goes on: none likewise
}

// arrived is how a run stands behind its last transition.
func arrived(c *party, r run, depth int) stand {
	if len(r) == depth {
		return stand{run: r}
	}
	ways := c.Count()
	if ways == 0 {
		return stand{run: r}
	}
	return stand{r, c, ways}
}

// errand is a crew that is to go on, and by which transition. Others go on from the same stand: it stays as it is.
type errand struct {
	from stand
	pick int
}

func (e errand) do(depth int) stand {
	c := e.from.crew.Clone()
	told := c.Step(e.pick)
	return arrived(c, append(slices.Clip(e.from.run), leg{e.pick, told}), depth)
}

// work does what is handed to a worker, till no more comes.
func work(depth int, todo <-chan errand, done chan<- stand) {
	for e := range todo {
		done <- e.do(depth)
	}
}

// search is how far an exploration has come.
type search struct {
	depth   int
	errands []errand // those that no worker has had
	out     int      // how many errands workers have
	ends    []run
	many    bool // whether more runs come to their ends than may
}

// lead lets workers do all errands, and those that come of them.
func (s *search) lead(workers int) {
	depth, todo, done := s.depth, make(chan errand), make(chan stand)
	var group sync.WaitGroup
	for range workers {
		group.Add(1)
		go func() {
			defer group.Done()
			work(depth, todo, done)
		}()
	}
	for !s.many && len(s.errands)+s.out > 0 {
		s.trade(todo, done)
	}
	close(todo)
	for ; s.out > 0; s.out-- {
		<-done
	}
	group.Wait()
}

// trade hands an errand to a worker, or takes what one brings.
func (s *search) trade(todo chan<- errand, done <-chan stand) {
	var next errand
	last := len(s.errands) - 1
	if last < 0 {
		todo = nil
	} else {
		// The last one leads furthest on: so the fewest crews are there at a time.
		next = s.errands[last]
	}
	select {
	case todo <- next:
		s.errands = slices.Delete(s.errands, last, last+1)
		s.out++
	case at := <-done:
		s.out--
		s.take(at)
	}
}

// take takes in how a run stands: at its end, or with ways to go on.
func (s *search) take(at stand) {
	// Each errand leads to one end or more, none of them another errand's: so too many are seen ahead of going there.
	if len(s.ends)+len(s.errands)+s.out+at.ways > api.MaxEnds {
		s.many = true
		return
	}
	if at.ways == 0 {
		s.ends = append(s.ends, at.run)
	}
	for pick := range at.ways {
		s.errands = append(s.errands, errand{at, pick})
	}
}
