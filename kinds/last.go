package kinds

// eachItself is a list of n numbers in which each leads to itself.
func eachItself(n int) []int {
	to := make([]int, n)
	for i := range to {
		to[i] = i
	}
	return to
}

// last follows from i where each number leads to, up to one that leads to itself. It shortens the way as it goes, so that long ways are not gone again and again.
func last(to []int, i int) int {
	for to[i] != i {
		to[i] = to[to[i]]
		i = to[i]
	}
	return i
}
