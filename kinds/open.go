package kinds

import "squint/api"

// firstOpen tells the first declaration that comes back to itself (-1: none does).
func firstOpen(l []api.Node, meant []int) int {
	s := search{
		l:     l,
		meant: meant,
		when:  make([]int, len(l)),
		back:  make([]int, len(l)),
		round: make([]bool, len(l)),
	}
	for _, n := range l {
		if n.Kind == api.NType && s.when[n.Kids[0]] == 0 {
			s.from(n.Kids[0])
		}
	}
	for i, n := range l {
		if n.Kind == api.NType && s.round[n.Kids[0]] {
			return i
		}
	}
	return -1
}

// search looks for the type nodes from which a way, by TTuples and TNames alone, comes back to them: those of a group of nodes that all reach each other (found as Tarjan does). A declaration comes back to itself just if its type node does: only TNames of its Name lead there. The way that is being followed stands in a list, and not in calls within calls, since names may lead to names without a bound.
type search struct {
	l     []api.Node
	meant []int
	when  []int  // of each node when it was come to, from 1 on (0: not yet)
	back  []int  // of each node the least when that is known to be reached from it, among those of open groups
	round []bool // of each node whether it comes back to itself
	count int
	way   []step
	group []int // the nodes whose groups are not whole yet, in the order in which they were come to
}

// step is a node on the way, and how many of those that it leads to have been followed.
type step struct{ node, taken int }

func (s *search) from(node int) {
	s.enter(node)
	for len(s.way) > 0 {
		top := &s.way[len(s.way)-1]
		to := s.leads(top.node, top.taken)
		top.taken++
		switch {
		case to < 0:
			s.leave(top.node)
		case s.when[to] == 0:
			s.enter(to)
		default:
			s.reaches(top.node, s.when[to])
		}
	}
}

// leads tells the k-th node to which a node leads (-1: there are no more).
func (s *search) leads(node, k int) int {
	n := s.l[node]
	switch {
	case n.Kind == api.TTuple && k < len(n.Kids):
		return n.Kids[k]
	case n.Kind == api.TName && k == 0:
		return s.meant[node]
	}
	return -1
}

func (s *search) enter(node int) {
	s.count++
	s.when[node], s.back[node] = s.count, s.count
	s.way = append(s.way, step{node: node})
	s.group = append(s.group, node)
}

func (s *search) reaches(node, when int) {
	s.back[node] = min(s.back[node], when)
}

func (s *search) leave(node int) {
	s.way = s.way[:len(s.way)-1]
	if len(s.way) > 0 {
		s.reaches(s.way[len(s.way)-1].node, s.back[node])
	}
	if s.back[node] == s.when[node] {
		s.close(node)
	}
}

// close takes the group of which node was come to first: it is whole. Whoever comes to its nodes from now on is none of it: their when is set behind all others, that it counts no more.
func (s *search) close(node int) {
	begin := len(s.group) - 1
	for s.group[begin] != node {
		begin--
	}
	whole := s.group[begin:]
	for _, member := range whole {
		s.round[member] = len(whole) > 1 || s.leads(member, 0) == member
		s.when[member] = len(s.l) + 1
	}
	s.group = s.group[:begin]
}
