package explore

import "squint/api"

// Unlike hands to the tests what becomes of the lists of runs, each of which has legs of its own: also of lists that no run tells.
func Unlike(lists [][][]api.Event) [][]api.Event {
	var all []run
	pick := 0
	for _, legs := range lists {
		var r run
		for _, told := range legs {
			r = append(r, leg{pick, told})
			pick++
		}
		all = append(all, r)
	}
	return unlike(all)
}
