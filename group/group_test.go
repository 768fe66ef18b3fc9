package group_test

import (
	"errors"
	"math"
	"math/rand"
	"reflect"
	"slices"
	"sort"
	"strings"
	"testing"

	"soundings/api"
	"soundings/group"
	"soundings/label"
)

var names = []string{"sum", "avg", "min", "max", "count", "topk", "bottomk"}

func bits(f float64) uint64 {
	if f != f {
		return api.None
	}
	return math.Float64bits(f)
}

// elem: labels as "a=1 b=2", and a number.
func elem(l string, f float64) api.Elem {
	x := api.Elem{V: bits(f)}
	for _, s := range strings.Fields(l) {
		n, v, _ := strings.Cut(s, "=")
		x.Labels = append(x.Labels, api.Label{Name: n, Value: v})
	}
	return x
}

func same(a, b []api.Elem) bool {
	return slices.EqualFunc(a, b, func(x, y api.Elem) bool { return x.V == y.V && slices.Equal(x.Labels, y.Labels) })
}

// P13.1: what is a vector.
func TestRight(t *testing.T) {
	for k, v := range [][]api.Elem{nil, {}, {elem("", 1)}, {elem("", 1), elem("a=1", math.NaN()), elem("a=1 b=1", math.Inf(-1)), elem("a=2", math.Copysign(0, -1))}} {
		if !group.Right(v) {
			t.Errorf("P13.1: %d is a vector", k)
		}
	}
	stale, odd := elem("a=1", 0), elem("a=1", 0)
	stale.V, odd.V = api.Stale, math.MaxUint64
	for k, v := range [][]api.Elem{{stale}, {odd}, {elem("a=", 1)}, {elem("b=1 a=1", 1)}, {elem("1=1", 1)}, {elem("", 1), elem("", 2)}, {elem("a=1", 1), elem("a=1", 1)}, {elem("a=2", 1), elem("a=1", 1)}, {elem("a=1", 1), elem("", 1)}} {
		if group.Right(v) {
			t.Errorf("P13.1: %d is no vector", k)
		}
		for _, name := range names {
			if got, err := group.Apply(name, 0, nil, bits(1), v); len(got) != 0 || !errors.Is(err, api.BadOrder) {
				t.Errorf("P13.2: %s of %d: %v %v", name, k, got, err)
			}
		}
	}
}

// P13.2: groups, and what they come to.
func TestApply(t *testing.T) {
	nan, inf := math.NaN(), math.Inf(1)
	v := []api.Elem{elem("__name__=x a=1 b=1", 2), elem("__name__=x a=1 b=2", 3), elem("__name__=y a=2 b=1", -1), elem("__name__=y b=1", nan)}
	for k, c := range []struct {
		name  string
		how   int
		names string
		k     float64
		v     []api.Elem
		want  []api.Elem
	}{
		{"sum", 0, "", 0, nil, nil}, {"topk", 0, "", 5, nil, nil}, {"count", api.By, "a", 0, nil, nil},
		{"sum", api.By, "a", 0, v[:2], []api.Elem{elem("a=1", 5)}},
		{"sum", 0, "", 0, v[:3], []api.Elem{elem("", 4)}}, {"sum", 0, "a", 0, v[:3], []api.Elem{elem("", 4)}}, {"sum", 0, "", 0, v, []api.Elem{elem("", nan)}},
		{"count", api.By, "", 0, v, []api.Elem{elem("", 4)}}, {"count", api.By, "z", 0, v, []api.Elem{elem("", 4)}}, {"count", api.By, "a", 0, v, []api.Elem{elem("", 1), elem("a=1", 2), elem("a=2", 1)}}, {"count", api.By, "b a a", 0, v, []api.Elem{elem("a=1 b=1", 1), elem("a=1 b=2", 1), elem("a=2 b=1", 1), elem("b=1", 1)}}, {"count", api.By, "__name__", 0, v, []api.Elem{elem("__name__=x", 2), elem("__name__=y", 2)}},
		{"count", api.Without, "", 0, v, []api.Elem{elem("a=1 b=1", 1), elem("a=1 b=2", 1), elem("a=2 b=1", 1), elem("b=1", 1)}}, {"count", api.Without, "a", 0, v, []api.Elem{elem("b=1", 3), elem("b=2", 1)}}, {"count", api.Without, "__name__ b a", 0, v, []api.Elem{elem("", 4)}},
		{"avg", 0, "", 0, v[:2], []api.Elem{elem("", 2.5)}}, {"avg", api.Without, "b", 0, v[:3], []api.Elem{elem("a=1", 2.5), elem("a=2", -1)}},
		{"min", 0, "", 0, v, []api.Elem{elem("", -1)}}, {"max", 0, "", 0, v, []api.Elem{elem("", 3)}}, {"min", api.By, "a", 0, v, []api.Elem{elem("", nan), elem("a=1", 2), elem("a=2", -1)}},
		{"max", 0, "", 0, []api.Elem{elem("", nan), elem("a=1", -inf), elem("a=2", nan)}, []api.Elem{elem("", -inf)}}, {"min", 0, "", 0, []api.Elem{elem("", nan), elem("a=1", nan)}, []api.Elem{elem("", nan)}}, {"min", 0, "", 0, []api.Elem{elem("", 0), elem("a=1", math.Copysign(0, -1))}, []api.Elem{elem("", 0)}}, {"max", 0, "", 0, []api.Elem{elem("", math.Copysign(0, -1)), elem("a=1", 0)}, []api.Elem{elem("", math.Copysign(0, -1))}},
		{"sum", 0, "", 0, []api.Elem{elem("", 1e16), elem("a=1", 1), elem("a=2", 1), elem("a=3", -1e16)}, []api.Elem{elem("", 0)}}, {"sum", 0, "", 0, []api.Elem{elem("", math.Copysign(0, -1))}, []api.Elem{elem("", math.Copysign(0, -1))}}, {"sum", 0, "", 0, []api.Elem{elem("", inf), elem("a=1", -inf)}, []api.Elem{elem("", nan)}},
		{"topk", 0, "", 1, v, v[1:2]}, {"topk", 0, "", 2, v, v[:2]}, {"topk", 0, "", 3.9, v, v[:3]}, {"topk", 0, "", 4, v, v}, {"topk", 0, "", inf, v, v}, {"topk", 0, "", 1e300, v, v}, {"topk", 0, "", 0.99, v, nil}, {"topk", 0, "", -1, v, nil}, {"topk", 0, "", -inf, v, nil}, {"topk", 0, "", nan, v, nil},
		{"bottomk", 0, "", 1, v, v[2:3]}, {"bottomk", 0, "", 3, v, v[:3]}, {"bottomk", 0, "", 4, v, v}, {"bottomk", 0, "", 0, v, nil}, {"bottomk", api.By, "b", 1, v, []api.Elem{v[1], v[2]}}, {"topk", api.Without, "b", 1, v, v[1:]},
		{"topk", 0, "", 2, []api.Elem{elem("", 1), elem("a=1", 1), elem("a=2", 1)}, []api.Elem{elem("", 1), elem("a=1", 1)}}, {"bottomk", 0, "", 2, []api.Elem{elem("", 0), elem("a=1", nan), elem("a=2", math.Copysign(0, -1)), elem("a=3", 0)}, []api.Elem{elem("", 0), elem("a=2", math.Copysign(0, -1))}}, {"topk", 0, "", 2, []api.Elem{elem("", nan), elem("a=1", nan), elem("a=2", -inf)}, []api.Elem{elem("", nan), elem("a=2", -inf)}},
	} {
		was := slices.Clone(c.v)
		got, err := group.Apply(c.name, c.how, strings.Fields(c.names), math.Float64bits(c.k), c.v)
		if err != nil || !same(got, c.want) || !group.Right(got) {
			t.Errorf("P13.2: %d: %v %v, want %v", k, got, err, c.want)
		}
		if !reflect.DeepEqual(was, slices.Clone(c.v)) {
			t.Errorf("rule 3: %d: changed", k)
		}
	}
}

// P13.2: what may not be, by the first of what is wrong.
func TestApplyWrong(t *testing.T) {
	bad := []api.Elem{elem("a=", 1)}
	for k, c := range []struct {
		name string
		how  int
		want api.Code
	}{{"nothing", 3, api.BadParse}, {"sum", -1, api.BadParse}, {"topk", math.MaxInt, api.BadParse}, {"nothing", 0, api.BadType}, {"", api.By, api.BadType}, {"Sum", 0, api.BadType}, {"rate", 2, api.BadType}, {"sum", 2, api.BadOrder}} {
		if got, err := group.Apply(c.name, c.how, nil, bits(1), bad); len(got) != 0 || !errors.Is(err, c.want) {
			t.Errorf("P13.2: %d: %v %v", k, got, err)
		}
	}
}

// Rule 3: spare room of names stays, and what is answered has memory of its own.
func TestOwnMemory(t *testing.T) {
	room := []string{"a", "spare"}
	v := []api.Elem{elem("a=1", 1), elem("b=1", 2)}
	for _, name := range names {
		for how := range 3 {
			got, err := group.Apply(name, how, room[:1], bits(2), v)
			if err != nil {
				t.Error(err)
			}
			for _, x := range got {
				for k := range x.Labels {
					x.Labels[k].Value = "changed"
				}
			}
		}
	}
	if room[1] != "spare" || !same(v, []api.Elem{elem("a=1", 1), elem("b=1", 2)}) {
		t.Errorf("rule 3: %v %v", room, v)
	}
}

func someVector(r *rand.Rand) []api.Elem {
	numbers := []float64{0, math.Copysign(0, -1), 1, 2, 2, 3, -1, 0.1, 0.2, 1e17, math.Inf(1), math.Inf(-1), math.NaN()}
	seen := map[string]bool{}
	var v []api.Elem
	for range r.Intn(12) {
		l := ""
		for _, n := range []string{"A", "__name__", "a", "b"} {
			if r.Intn(3) > 0 {
				l += " " + n + "=" + string(rune('1'+r.Intn(3)))
			}
		}
		if !seen[l] {
			seen[l] = true
			v = append(v, elem(l, numbers[r.Intn(len(numbers))]))
		}
	}
	slices.SortFunc(v, func(a, b api.Elem) int { return label.Cmp(a.Labels, b.Labels) })
	return v
}

// byHand: groups found by going through all, and the best by sorting all.
func byHand(name string, how int, by []string, k float64, v []api.Elem) []api.Elem {
	of := func(x api.Elem) []api.Label {
		var out []api.Label
		for _, l := range x.Labels {
			if has := slices.Contains(by, l.Name); how == api.By && has || how == api.Without && !has && l.Name != "__name__" {
				out = append(out, l)
			}
		}
		return out
	}
	num := func(x api.Elem) float64 { return math.Float64frombits(x.V) }
	var out []api.Elem
	for i, x := range v {
		var all []api.Elem
		first := true
		for j, y := range v {
			if label.Cmp(of(x), of(y)) == 0 {
				all = append(all, y)
				first = first && j >= i
			}
		}
		if !first {
			continue
		}
		sum, least, most := num(all[0]), num(all[0]), num(all[0])
		for _, y := range all[1:] {
			sum += num(y)
			if num(y) < least || least != least {
				least = num(y)
			}
			if num(y) > most || most != most {
				most = num(y)
			}
		}
		ranked := slices.Clone(all)
		sort.SliceStable(ranked, func(i, j int) bool {
			a, b := num(ranked[i]), num(ranked[j])
			if a != a || b != b {
				return a == a && b != b
			}
			return name == "topk" && a > b || name == "bottomk" && a < b
		})
		switch name {
		case "sum":
			out = append(out, api.Elem{Labels: of(x), V: bits(sum)})
		case "avg":
			out = append(out, api.Elem{Labels: of(x), V: bits(sum / float64(len(all)))})
		case "min":
			out = append(out, api.Elem{Labels: of(x), V: bits(least)})
		case "max":
			out = append(out, api.Elem{Labels: of(x), V: bits(most)})
		case "count":
			out = append(out, api.Elem{Labels: of(x), V: bits(float64(len(all)))})
		default:
			n := 0
			for n < len(ranked) && float64(n+1) <= k {
				n++
			}
			out = append(out, ranked[:n]...)
		}
	}
	slices.SortFunc(out, func(a, b api.Elem) int { return label.Cmp(a.Labels, b.Labels) })
	return out
}

// P13.2, and P13.3: any vectors, held against what comes of them by hand.
func TestApplyByHand(t *testing.T) {
	r := rand.New(rand.NewSource(1))
	for range 6000 {
		v := someVector(r)
		how, by, k := r.Intn(3), []string{"a", "b", "z", "__name__"}[:r.Intn(5)], []float64{0, 1, 2, 2.5, 5, 100}[r.Intn(6)]
		total := 0.0
		for _, name := range names {
			got, err := group.Apply(name, how, by, bits(k), v)
			if want := byHand(name, how, by, k, v); err != nil || !same(got, want) || !group.Right(got) {
				t.Fatalf("P13.2: %s %d %v %v of %v: %v %v, want %v", name, how, by, k, v, got, err, want)
			}
			if name == "count" {
				for _, x := range got {
					total += math.Float64frombits(x.V)
				}
			}
		}
		if total != float64(len(v)) {
			t.Fatalf("P13.3: %v elements in groups of %v", total, v)
		}
		checkOne(t, v)
	}
}

// checkOne: of one group alone the greatest number is max, the least min, if all are numbers.
func checkOne(t *testing.T, v []api.Elem) {
	var all []float64
	for _, x := range v {
		all = append(all, math.Float64frombits(x.V))
	}
	if len(all) == 0 || slices.ContainsFunc(all, func(f float64) bool { return f != f }) {
		return
	}
	least, _ := group.Apply("min", 0, nil, 0, v)
	most, _ := group.Apply("max", 0, nil, 0, v)
	if math.Float64frombits(least[0].V) != slices.Min(all) || math.Float64frombits(most[0].V) != slices.Max(all) {
		t.Fatalf("P13.3: %v: %v %v", v, least, most)
	}
}
