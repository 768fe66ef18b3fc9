package join_test

import (
	"errors"
	"math"
	"math/big"
	"math/rand"
	"slices"
	"strings"
	"testing"

	"soundings/api"
	"soundings/group"
	"soundings/join"
	"soundings/label"
)

func bits(f float64) uint64 {
	if f != f {
		return api.None
	}
	return math.Float64bits(f)
}

// elem: labels as "a=1 b=2", and a number.
func elem(l string, f float64) api.Elem {
	x := api.Elem{V: bits(f)}
	for _, s := range strings.Fields(l) {
		n, v, _ := strings.Cut(s, "=")
		x.Labels = append(x.Labels, api.Label{Name: n, Value: v})
	}
	return x
}

func same(a, b []api.Elem) bool {
	return slices.EqualFunc(a, b, func(x, y api.Elem) bool { return x.V == y.V && slices.Equal(x.Labels, y.Labels) })
}

// P14.1: numbers of signs.
func TestNumber(t *testing.T) {
	inf, nan, zero := math.Inf(1), math.NaN(), math.Copysign(0, -1)
	for k, c := range []struct {
		op         int
		a, b, want float64
	}{
		{api.Plus, 1, 2, 3}, {api.Minus, 1, 2, -1}, {api.Times, 3, 2, 6}, {api.Over, 1, 2, .5}, {api.Over, 1, 0, inf}, {api.Over, -1, 0, -inf}, {api.Over, 0, 0, nan}, {api.Plus, inf, -inf, nan}, {api.Times, inf, 0, nan}, {api.Plus, zero, zero, zero}, {api.Plus, 0.1, 0.2, 0.30000000000000004}, {api.Times, 1e200, 1e200, inf},
		{api.Rest, 7, 3, 1}, {api.Rest, -7, 3, -1}, {api.Rest, 7, -3, 1}, {api.Rest, 5.5, 2, 1.5}, {api.Rest, 1, 0, nan}, {api.Rest, inf, 1, nan}, {api.Rest, 1, inf, 1}, {api.Rest, -6, 3, zero}, {api.Rest, nan, 1, nan},
		{api.Eq, 1, 1, 1}, {api.Eq, 0, zero, 1}, {api.Eq, 1, 2, 0}, {api.Eq, nan, nan, 0}, {api.Ne, 1, 1, 0}, {api.Ne, 1, 2, 1}, {api.Ne, nan, nan, 1}, {api.Ne, nan, 1, 1}, {api.Ne, 0, zero, 0},
		{api.Gt, 2, 1, 1}, {api.Gt, 1, 1, 0}, {api.Gt, 1, 2, 0}, {api.Gt, nan, 1, 0}, {api.Lt, 1, 2, 1}, {api.Lt, 1, 1, 0}, {api.Lt, 2, 1, 0}, {api.Lt, 1, nan, 0}, {api.Ge, 2, 1, 1}, {api.Ge, 1, 1, 1}, {api.Ge, 1, 2, 0}, {api.Ge, nan, nan, 0}, {api.Le, 1, 2, 1}, {api.Le, 1, 1, 1}, {api.Le, 2, 1, 0}, {api.Le, nan, 1, 0}, {api.Gt, 0, zero, 0}, {api.Ge, zero, 0, 1}, {api.Le, inf, inf, 1},
	} {
		if got, ok := join.Number(c.op, bits(c.a), bits(c.b)); got != bits(c.want) || !ok {
			t.Errorf("P14.1: %d: %v %v", k, math.Float64frombits(got), ok)
		}
	}
	for _, op := range []int{0, 12, -1, math.MaxInt, math.MinInt} {
		if got, ok := join.Number(op, bits(1), bits(1)); got != 0 || ok {
			t.Errorf("P14.1: sign %d: %v %v", op, got, ok)
		}
	}
	for op := api.Plus; op <= api.Rest; op++ {
		if got, ok := join.Number(op, api.Stale, bits(1)); got != api.None || !ok {
			t.Errorf("rule 6: sign %d: %x %v", op, got, ok)
		}
		if got, ok := join.Number(op, bits(1), math.MaxUint64); got != api.None || !ok {
			t.Errorf("rule 6: sign %d: %x %v", op, got, ok)
		}
	}
}

// P14.1: sums, differences, products, quotients and rests of any numbers, held against exact ones.
func TestNumberExact(t *testing.T) {
	r := rand.New(rand.NewSource(1))
	for range 5000 {
		a, b := (r.Float64()-.5)*math.Pow(10, float64(r.Intn(20)-10)), (r.Float64()-.5)*math.Pow(10, float64(r.Intn(20)-10))
		x, y := new(big.Rat).SetFloat64(a), new(big.Rat).SetFloat64(b)
		whole := new(big.Int).Quo(new(big.Int).Mul(x.Num(), y.Denom()), new(big.Int).Mul(x.Denom(), y.Num()))
		for op, want := range map[int]*big.Rat{
			api.Plus: new(big.Rat).Add(x, y), api.Minus: new(big.Rat).Sub(x, y), api.Times: new(big.Rat).Mul(x, y), api.Over: new(big.Rat).Quo(x, y),
			api.Rest: new(big.Rat).Sub(x, new(big.Rat).Mul(y, new(big.Rat).SetInt(whole))),
		} {
			f, _ := want.Float64()
			if got, _ := join.Number(op, bits(a), bits(b)); math.Float64frombits(got) != f {
				t.Fatalf("P14.1: sign %d of %v and %v: %v, want %v", op, a, b, math.Float64frombits(got), f)
			}
		}
	}
}

// P14.2: a vector and a number.
func TestSide(t *testing.T) {
	nan := math.NaN()
	v := []api.Elem{elem("", 1), elem("__name__=x a=2", 2), elem("__name__=y a=1", nan), elem("a=3", -1)}
	for k, c := range []struct {
		op   int
		flag bool
		v    []api.Elem
		x    float64
		left bool
		want []api.Elem
	}{
		{api.Plus, false, v, 1, false, []api.Elem{elem("", 2), elem("a=1", nan), elem("a=2", 3), elem("a=3", 0)}}, {api.Minus, false, v, 1, false, []api.Elem{elem("", 0), elem("a=1", nan), elem("a=2", 1), elem("a=3", -2)}}, {api.Minus, false, v, 1, true, []api.Elem{elem("", 0), elem("a=1", nan), elem("a=2", -1), elem("a=3", 2)}}, {api.Plus, true, v[3:], 1, true, []api.Elem{elem("a=3", 0)}}, {api.Rest, false, v[1:2], 7, true, []api.Elem{elem("a=2", 1)}},
		{api.Gt, false, v, 1, false, v[1:2]}, {api.Gt, false, v, 1, true, v[3:]}, {api.Ge, false, v, 1, false, v[:2]}, {api.Ne, false, v, 1, false, v[1:]}, {api.Ne, false, v, nan, true, v}, {api.Eq, false, v, nan, false, nil}, {api.Eq, false, v, 2, true, v[1:2]}, {api.Lt, false, v, 100, false, []api.Elem{v[0], v[1], v[3]}},
		{api.Gt, true, v, 1, false, []api.Elem{elem("", 0), elem("a=1", 0), elem("a=2", 1), elem("a=3", 0)}}, {api.Le, true, v, 1, true, []api.Elem{elem("", 1), elem("a=1", 0), elem("a=2", 1), elem("a=3", 0)}}, {api.Plus, false, nil, 1, false, nil},
	} {
		got, err := join.Side(c.op, c.flag, c.v, bits(c.x), c.left)
		if err != nil || !same(got, c.want) || !group.Right(got) {
			t.Errorf("P14.2: %d: %v %v", k, got, err)
		}
	}
}

// P14.2: what may not be, by the first of what is wrong.
func TestSideWrong(t *testing.T) {
	bad, alike := []api.Elem{elem("a=", 1)}, []api.Elem{elem("__name__=x a=1", 1), elem("__name__=y a=1", 2)}
	for k, c := range []struct {
		op   int
		flag bool
		v    []api.Elem
		want api.Code
	}{{0, false, bad, api.BadParse}, {12, true, bad, api.BadParse}, {api.Plus, false, bad, api.BadOrder}, {api.Eq, false, []api.Elem{elem("b=1", 1), elem("a=1", 1)}, api.BadOrder}, {api.Plus, false, alike, api.Twice}, {api.Gt, true, alike, api.Twice}} {
		if got, err := join.Side(c.op, c.flag, c.v, bits(1), false); len(got) != 0 || !errors.Is(err, c.want) {
			t.Errorf("P14.2: %d: %v %v", k, got, err)
		}
	}
	if got, err := join.Side(api.Gt, false, alike, bits(0), false); err != nil || !same(got, alike) {
		t.Errorf("P14.2: with their names: %v %v", got, err)
	}
	if got, err := join.Side(api.Gt, false, alike, api.Stale, true); err != nil || len(got) != 0 {
		t.Errorf("P14.2: a stale number: %v %v", got, err)
	}
}

// P14.3: two vectors.
func TestJoin(t *testing.T) {
	nan := math.NaN()
	a := []api.Elem{elem("", 9), elem("__name__=x a=1 b=1", 1), elem("__name__=x a=2 b=1", 2), elem("__name__=x a=3 b=1", nan)}
	b := []api.Elem{elem("__name__=y a=1 b=1", 1), elem("__name__=z a=2 b=1", 3), elem("a=3", 5), elem("a=3 b=1", 5)}
	c := []api.Elem{elem("b=1", 10), elem("b=2", 20)}
	for k, x := range []struct {
		op    int
		flag  bool
		how   int
		names string
		a, b  []api.Elem
		want  []api.Elem
	}{
		{api.Plus, false, 0, "", a, b, []api.Elem{elem("a=1 b=1", 2), elem("a=2 b=1", 5), elem("a=3 b=1", nan)}}, {api.Minus, false, 0, "", b, a, []api.Elem{elem("a=1 b=1", 0), elem("a=2 b=1", 1), elem("a=3 b=1", nan)}},
		{api.Eq, false, 0, "", a, b, a[1:2]}, {api.Lt, false, 0, "", a, b, a[2:3]}, {api.Ne, false, 0, "", a, b, a[2:]}, {api.Ge, true, 0, "", a, b, []api.Elem{elem("a=1 b=1", 1), elem("a=2 b=1", 0), elem("a=3 b=1", 0)}}, {api.Plus, false, 0, "", a, nil, nil}, {api.Plus, false, api.By, "", nil, b, nil},
		{api.Plus, false, api.By, "b", a[1:2], c, []api.Elem{elem("b=1", 11)}}, {api.Gt, false, api.By, "b", c, a[1:2], []api.Elem{elem("b=1", 10)}}, {api.Plus, false, api.By, "a", a, b[:2], []api.Elem{elem("a=1", 2), elem("a=2", 5)}}, {api.Eq, false, api.By, "a", a, b[:2], []api.Elem{elem("a=1", 1)}}, {api.Plus, false, api.By, "__name__", a[1:2], []api.Elem{elem("__name__=x z=1", 5)}, []api.Elem{elem("__name__=x", 6)}}, {api.Plus, false, api.By, "z", a[:1], b[:1], []api.Elem{elem("", 10)}}, {api.Plus, false, api.By, "", a[:1], b[:1], []api.Elem{elem("", 10)}},
		{api.Times, false, api.Without, "a", a[1:2], c, []api.Elem{elem("b=1", 10)}}, {api.Lt, false, api.Without, "a", a[1:2], c, []api.Elem{elem("__name__=x b=1", 1)}}, {api.Lt, false, api.Without, "a __name__", a[1:2], c, []api.Elem{elem("b=1", 1)}}, {api.Lt, false, 0, "a", a[1:2], c, []api.Elem{elem("__name__=x b=1", 1)}}, {api.Lt, true, api.Without, "a", a[2:3], c, []api.Elem{elem("b=1", 1)}},
		{api.Plus, false, api.Without, "b", a[1:3], []api.Elem{elem("a=2", 1), elem("c=1", 1), elem("c=1 b=1", 1)}[:2], []api.Elem{elem("a=2", 3)}},
		{api.Plus, false, api.By, "b", a[:1], []api.Elem{elem("a=1 b=1", 1), elem("a=2 b=1", 1)}, nil}, {api.Plus, false, api.By, "b", a[1:], []api.Elem{elem("b=2", 1)}, nil},
		{api.Plus, false, 0, "", []api.Elem{elem("__name__=a x=2", 1), elem("__name__=b x=1", 2)}, []api.Elem{elem("x=1", 5), elem("x=2", 6)}, []api.Elem{elem("x=1", 7), elem("x=2", 7)}},
	} {
		got, err := join.Join(x.op, x.flag, x.how, strings.Fields(x.names), x.a, x.b)
		if err != nil || !same(got, x.want) || !group.Right(got) {
			t.Errorf("P14.3: %d: %v %v", k, got, err)
		}
	}
}

// P14.3: what may not be, by the first of what is wrong.
func TestJoinWrong(t *testing.T) {
	bad, one := []api.Elem{elem("a=", 1)}, []api.Elem{elem("a=1", 1)}
	alike := []api.Elem{elem("__name__=x a=1", 1), elem("__name__=y a=1", 2)}
	for k, c := range []struct {
		op, how int
		a, b    []api.Elem
		want    api.Code
	}{
		{0, 0, bad, bad, api.BadParse}, {12, 0, bad, bad, api.BadParse}, {api.Plus, 3, bad, bad, api.BadParse}, {api.Plus, -1, one, one, api.BadParse},
		{api.Plus, 0, bad, one, api.BadOrder}, {api.Plus, 0, one, bad, api.BadOrder}, {api.Plus, 0, bad, alike, api.BadOrder},
		{api.Plus, 0, alike, one, api.Many}, {api.Plus, 0, one, alike, api.Many}, {api.Plus, 0, alike, alike, api.Many}, {api.Gt, 0, alike, one, api.Many}, {api.Eq, 0, one, []api.Elem{elem("__name__=x a=1", 5), elem("a=1", 6)}, api.Many}, {api.Plus, 1, one, []api.Elem{elem("b=1", 5), elem("b=2", 6)}, api.Many}, {api.Plus, 1, []api.Elem{elem("b=1", 5), elem("b=2", 6)}, one, api.Many},
	} {
		if got, err := join.Join(c.op, false, c.how, nil, c.a, c.b); len(got) != 0 || !errors.Is(err, c.want) {
			t.Errorf("P14.3: %d: %v %v", k, got, err)
		}
	}
}

// Rule 3: spare room of names stays, and what is answered has memory of its own.
func TestOwnMemory(t *testing.T) {
	room := []string{"z", "spare"}
	v := func() []api.Elem { return []api.Elem{elem("__name__=x a=1", 1), elem("a=2", 2)} }
	a, b := v(), v()
	for op := api.Eq; op <= api.Rest; op++ {
		var all []api.Elem
		for how := range 2 {
			got, err := join.Join(op, false, 2*how, room[:1], a, b)
			if err != nil {
				t.Error(err)
			}
			all = append(all, got...)
		}
		got, err := join.Side(op, false, a, bits(1), false)
		if err != nil {
			t.Error(err)
		}
		for _, x := range append(all, got...) {
			x.Labels[0].Value = "changed"
		}
	}
	if room[1] != "spare" || !same(a, v()) || !same(b, v()) {
		t.Errorf("rule 3: %v %v %v", room, a, b)
	}
}

func someVector(r *rand.Rand) []api.Elem {
	numbers := []float64{0, 1, 2, 3, -1, 0.1, math.Inf(1), math.NaN()}
	seen := map[string]bool{}
	var v []api.Elem
	for range r.Intn(6) {
		l := ""
		for _, n := range []string{"A", "__name__", "a", "b"} {
			if r.Intn(3) > 0 {
				l += " " + n + "=" + string(rune('1'+r.Intn(2)))
			}
		}
		if !seen[l] {
			seen[l] = true
			v = append(v, elem(l, numbers[r.Intn(len(numbers))]))
		}
	}
	slices.SortFunc(v, func(a, b api.Elem) int { return label.Cmp(a.Labels, b.Labels) })
	return v
}

// byWords goes through all pairs, as the chapter says it.
func byWords(op int, flag bool, how int, names []string, a, b []api.Elem) ([]api.Elem, error) {
	sig := func(x api.Elem) []api.Label {
		if how == 1 {
			return label.Keep(x.Labels, names)
		}
		return label.Drop(x.Labels, append([]string{"__name__"}, names...))
	}
	times := func(s []api.Label, v []api.Elem) int {
		n := 0
		for _, x := range v {
			if label.Cmp(sig(x), s) == 0 {
				n++
			}
		}
		return n
	}
	var out []api.Elem
	for _, x := range a {
		for _, y := range b {
			if label.Cmp(sig(x), sig(y)) != 0 {
				continue
			}
			if times(sig(x), a) > 1 || times(sig(x), b) > 1 {
				return nil, api.Many
			}
			n, _ := join.Number(op, x.V, y.V)
			l := label.Drop(x.Labels, names)
			if op >= api.Plus || flag {
				l = label.Drop(l, []string{"__name__"})
			} else if n == bits(0) {
				continue
			} else {
				n = x.V
			}
			if how == 1 {
				l = sig(x)
			}
			out = append(out, api.Elem{Labels: l, V: n})
		}
	}
	slices.SortFunc(out, func(a, b api.Elem) int { return label.Cmp(a.Labels, b.Labels) })
	return out, nil
}

// P14.3: any vectors, held against the chapter's words; P14.4: with + and * it is the same the other way round.
func TestJoinByWords(t *testing.T) {
	r := rand.New(rand.NewSource(2))
	right := 0
	for range 30000 {
		a, b := someVector(r), someVector(r)
		op, flag, how, names := 1+r.Intn(11), r.Intn(2) == 0, r.Intn(3), []string{"a", "__name__", "A", "z"}[r.Intn(3):][:r.Intn(2)]
		got, err := join.Join(op, flag, how, names, a, b)
		want, wrong := byWords(op, flag, how, names, a, b)
		if wrong != nil {
			if len(got) != 0 || !errors.Is(err, wrong) {
				t.Fatalf("P14.3: %v and %v: %v %v, want %v", a, b, got, err, wrong)
			}
		} else if err != nil || !same(got, want) || !group.Right(got) {
			t.Fatalf("P14.3: sign %d %v %d %v of %v and %v: %v %v, want %v", op, flag, how, names, a, b, got, err, want)
		} else if len(got) > 0 {
			right++
		}
		if op == api.Plus || op == api.Times {
			back, again := join.Join(op, flag, how, names, b, a)
			if (err == nil) != (again == nil) || err != nil && err.Error() != again.Error() || !same(got, back) {
				t.Fatalf("P14.4: %v and %v: %v %v", a, b, got, back)
			}
		}
	}
	if right < 3000 {
		t.Errorf("only %d had pairs", right)
	}
}
