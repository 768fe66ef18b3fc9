package vector_test

import (
	"errors"
	"testing"

	"soundings/api"
	"soundings/vector"
)

func elem(name, v string, bits uint64) api.Elem {
	return api.Elem{Labels: []api.Label{{Name: name, Value: v}}, V: bits}
}

// Elements come in the order of their labels; what is handed in stays as it was.
func TestMake(t *testing.T) {
	in := []api.Elem{elem("b", "1", 1), elem("a", "2", 2), {V: 3}, elem("a", "1", 4)}
	got, err := vector.Make(in)
	if err != nil || len(got) != 4 || got[0].V != 3 || got[1].V != 4 || got[2].V != 2 || got[3].V != 1 || in[0].V != 1 {
		t.Errorf("%v %v", got, err)
	}
	if got, err := vector.Make(nil); len(got) != 0 || err != nil {
		t.Errorf("%v %v", got, err)
	}
	for _, in := range [][]api.Elem{{{V: 1}, {V: 1}}, {elem("a", "1", 1), elem("b", "1", 1), elem("a", "1", 2)}} {
		if got, err := vector.Make(in); len(got) != 0 || !errors.Is(err, api.Twice) {
			t.Errorf("%v %v", got, err)
		}
	}
}
