// Package vector puts elements in order.
package vector

import (
	"slices"

	"soundings/api"
	"soundings/label"
)

// Make: the elements, in the order of their labels. Twice: two have the same ones.
func Make(elems []api.Elem) ([]api.Elem, error) {
	out := slices.Clone(elems)
	slices.SortFunc(out, cmpElems)
	for k := 1; k < len(out); k++ {
		if cmpElems(out[k-1], out[k]) == 0 {
			return nil, api.Twice
		}
	}
	return out, nil
}

func cmpElems(a, b api.Elem) int { return label.Cmp(a.Labels, b.Labels) }
