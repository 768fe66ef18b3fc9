package key_test

import (
	"testing"

	"soundings/api"
	"soundings/key"
	"soundings/label"
)

// Unlike labels have unlike texts, whatever bytes they hold.
func TestOf(t *testing.T) {
	pieces := []string{"", "a", "1", ":", "1:", "1:a", "a1:", "\x00", "1:a1:a"}
	all := [][]api.Label{nil}
	for _, a := range pieces {
		for _, b := range pieces {
			all = append(all, []api.Label{{Name: a, Value: b}})
			all = append(all, []api.Label{{Name: "x", Value: a}, {Name: b, Value: "y"}})
		}
	}
	for i, a := range all {
		for j, b := range all {
			if (key.Of(a) == key.Of(b)) != (label.Cmp(a, b) == 0) {
				t.Fatalf("%d and %d: %v %v", i, j, a, b)
			}
		}
	}
}
