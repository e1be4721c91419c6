package verify

import "squint/api"

// defaults tells of each row whether it has a default value: all but tuples have one, and tuples all of whose parts have.
// (So a row has none just if one that comes back to itself by tuples alone is reached from there by tuples alone.)
func defaults(t []api.Type) []bool {
	has := make([]bool, len(t))
	missing := make([]int, len(t))  // of a tuple, how many parts are not known to have one
	wholes := make([][]int, len(t)) // the tuples of which a row is a part, each as often as it is
	var found []int
	for row, one := range t {
		if one.Kind != api.KTuple {
			found = append(found, row)
			continue
		}
		missing[row] = len(one.Kids)
		for _, kid := range one.Kids {
			wholes[kid] = append(wholes[kid], row)
		}
	}
	for len(found) > 0 {
		row := found[len(found)-1]
		found = found[:len(found)-1]
		has[row] = true
		for _, whole := range wholes[row] {
			missing[whole]--
			if missing[whole] == 0 {
				found = append(found, whole)
			}
		}
	}
	return has
}
