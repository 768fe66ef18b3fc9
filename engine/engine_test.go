package engine_test

import (
	"errors"
	"math"
	"reflect"
	"slices"
	"strconv"
	"strings"
	"testing"

	"soundings/api"
	"soundings/engine"
	"soundings/eval"
	"soundings/label"
	"soundings/parse"
	"soundings/store"
	"soundings/value"
)

// labels: as "a=1 b=2".
func labels(s string) []api.Label {
	var out []api.Label
	for _, x := range strings.Fields(s) {
		n, v, _ := strings.Cut(x, "=")
		out = append(out, api.Label{Name: n, Value: v})
	}
	return out
}

func small(t *testing.T) []api.Series {
	var s []api.Series
	for k, l := range []string{"__name__=x job=a", "__name__=x job=b", "__name__=y A=1"} {
		for at := range int64(5 - k) {
			v := math.Float64bits(float64(10*int64(k) + at))
			if k == 1 && at == 2 {
				v = api.Stale
			}
			var err error
			made, _ := label.Make(labels(l))
			s, err = store.Append(s, made, api.Point{T: 1000 * at, V: v})
			if err != nil {
				t.Fatal(err)
			}
		}
	}
	return s
}

// told: series as "a=1: 1000 5, 2000 6; b=1: 1000 7".
func told(s []api.Series) string {
	var out []string
	for _, x := range s {
		var l, p []string
		for _, y := range x.Labels {
			l = append(l, y.Name+"="+y.Value)
		}
		for _, y := range x.Points {
			p = append(p, strconv.FormatInt(y.T, 10)+" "+value.Text(y.V))
		}
		out = append(out, strings.Join(l, " ")+": "+strings.Join(p, ", "))
	}
	return strings.Join(out, "; ")
}

func ask(query string, start, end, step, back int64, most int) api.Ask {
	return api.Ask{Query: query, Start: start, End: end, Step: step, Back: back, Most: most}
}

// P16.1: queries over a time.
func TestQuery(t *testing.T) {
	s := small(t)
	for _, c := range []struct {
		a    api.Ask
		want string
	}{
		{ask("time()", 1000, 3000, 1000, 1, 0), ": 1000 1, 2000 2, 3000 3"}, {ask("time()", 1000, 3999, 1000, 1, 0), ": 1000 1, 2000 2, 3000 3"}, {ask("1", 5, 5, 1, 1, 0), ": 5 1"}, {ask("1", 5, 5, math.MaxInt64, 1, 0), ": 5 1"}, {ask("1", 5, 6, math.MaxInt64, 1, 0), ": 5 1"}, {ask("vector(1)", -1, 1, 2, 1, 0), ": -1 1, 1 1"},
		{ask("time()", -api.MaxTime, api.MaxTime, api.MaxTime, api.MaxSpan, 20000), ": -1125899906842624 -1.125899906842624e+12, 0 0, 1125899906842624 1.125899906842624e+12"},
		{ask("x", 500, 2500, 1000, 600, 100), "__name__=x job=a: 500 0, 1500 1, 2500 2; __name__=x job=b: 500 10, 1500 11"}, {ask("x", 500, 2500, 1000, 500, 100), ""}, {ask("x", 3000, 4000, 1000, 1, 100), "__name__=x job=a: 3000 3, 4000 4; __name__=x job=b: 3000 13"},
		{ask("nothing", 0, 1000, 1, 1, 0), ""}, {ask("x > 2", 0, 4000, 1000, 1, 100), "__name__=x job=a: 3000 3, 4000 4; __name__=x job=b: 0 10, 1000 11, 3000 13"}, {ask("-{}", 1000, 2000, 1000, 1, 100), "A=1: 1000 -21, 2000 -22; job=a: 1000 -1, 2000 -2; job=b: 1000 -11"},
		{ask("sum(x)", 0, 3000, 1500, 1, 100), ": 0 10, 3000 16"}, {ask("delta(x[2s])", 2000, 4000, 1000, 1, 100), "job=a: 2000 2, 3000 2, 4000 2"}, {ask("x @ 1", 0, 1, 1, 1, 100), "__name__=x job=a: 0 1, 1 1; __name__=x job=b: 0 11, 1 11"},
	} {
		got, err := engine.Query(s, c.a)
		if err != nil || told(got) != c.want {
			t.Errorf("P16.1: %v: %s %v", c.a, told(got), err)
		}
		if !reflect.DeepEqual(s, small(t)) {
			t.Fatalf("rule 3: %v: changed", c.a)
		}
	}
}

// P16.1: what may not be, by the first of what is wrong.
func TestQueryWrong(t *testing.T) {
	s := small(t)
	swapped := []api.Series{s[1], s[0]}
	far := int64(api.MaxTime)
	for k, c := range []struct {
		s    []api.Series
		a    api.Ask
		want api.Code
		at   int
	}{
		{swapped, ask("!", 1, 0, 0, 0, -1), api.BadOrder, -1},
		{s, ask("!", 1, 0, 0, 0, -1), api.BadToken, 0}, {s, ask("a == == b", 1, 0, 0, 0, -1), api.BadParse, 5}, {s, ask("", 0, 0, 1, 1, 0), api.BadParse, 0}, {s, ask("x[0s]", 1, 0, 0, 0, -1), api.BadNumber, 2}, {s, ask(`{a=~"("}`, 1, 0, 0, 0, -1), api.BadPattern, 4}, {s, ask(strings.Repeat("(", 65), 1, 0, 0, 0, -1), api.Deep, 64}, {s, ask(strings.Repeat(" ", 4001), 1, 0, 0, 0, -1), api.Limit, -1},
		{s, ask("rate(x)", 1, 0, 0, 0, -1), api.BadType, -1}, {s, ask("x[5m]", 1, 0, 0, 0, -1), api.BadType, -1}, {s, ask(`"a"`, 1, 0, 0, 0, -1), api.BadType, -1}, {s, ask("f()", 0, 0, 1, 1, 0), api.BadType, -1},
		{s, ask("1", 0, 0, 0, 1, 0), api.BadRange, -1}, {s, ask("1", 0, 0, -1, 1, 0), api.BadRange, -1}, {s, ask("1", 0, 0, math.MinInt64, 1, 0), api.BadRange, -1}, {s, ask("1", 1, 0, 1, 1, 0), api.BadRange, -1}, {s, ask("1", -far-1, 0, far, 1, 0), api.BadRange, -1}, {s, ask("1", 0, far+1, far, 1, 0), api.BadRange, -1}, {s, ask("1", far+1, far+1, 1, 1, 0), api.BadRange, -1}, {s, ask("1", math.MinInt64, math.MaxInt64, 1, 1, 0), api.BadRange, -1}, {s, ask("1", 0, 0, 1, 0, 0), api.BadRange, -1}, {s, ask("1", 0, 0, 1, -1, 0), api.BadRange, -1}, {s, ask("1", 0, 0, 1, api.MaxSpan+1, 0), api.BadRange, -1}, {s, ask("1", 0, 0, 1, 1, -1), api.BadRange, -1}, {s, ask("1", 0, 0, 1, 1, 20001), api.BadRange, -1}, {s, ask("1", 0, 3000, 1, 0, 0), api.BadRange, -1},
		{s, ask("1", 0, 2000, 1, 1, 0), api.Limit, -1}, {s, ask("1", -far, far, 1, 1, 0), api.Limit, -1}, {s, ask("-{}", 0, 2000, 1, 1, 0), api.Limit, -1},
		{s, ask("x", 0, 4000, 1000, 1, 7), api.Limit, -1}, {s, ask("x offset 1s", -far, -far, 1, 1, 9), api.BadTime, -1}, {s, ask("x offset -1s", far-2000, far, 1000, 1, 9), api.BadTime, -1}, {s, ask("x + on () x", 0, 0, 1, 1, 9), api.Many, -1}, {s, ask(`abs({__name__=~"x|y"}) + -{job="a"} + abs({job=""} @ 0)`, 0, 0, 1, 1, 0), api.Limit, -1},
	} {
		got, err := engine.Query(c.s, c.a)
		var f *api.Fault
		if !errors.Is(err, c.want) || len(got) != 0 || c.at >= 0 && (!errors.As(err, &f) || f.At != c.at) {
			t.Errorf("P16.1: %d: %s %v, want %v", k, told(got), err, c.want)
		}
	}
}

// P16.1: what goes wrong first, from the first step on.
func TestFirstWrong(t *testing.T) {
	var s []api.Series
	for _, x := range []struct {
		l string
		t int64
	}{{"__name__=x", 1000}, {"__name__=y", 1000}, {"__name__=x", 2000}, {"__name__=y", 3000}} {
		var err error
		s, err = store.Append(s, labels(x.l), api.Point{T: x.t})
		if err != nil {
			t.Fatal(err)
		}
	}
	far := int64(api.MaxTime)
	for k, c := range []struct {
		a    api.Ask
		want error
	}{
		{ask("-{}", 1000, 3000, 1000, 1, 9), api.Twice}, {ask("-{}", 2000, 3000, 1000, 1, 2), nil}, {ask("-{}", 2000, 3000, 1000, 1, 1), api.Limit}, {ask("-{}", 0, 1000, 1000, 1, 1), api.Limit}, {ask("-{}", 0, 1000, 1000, 1, 2), api.Twice},
		{ask("x offset -1ms + -{}", 1000, far, far-1000, 1, 9), api.Twice}, {ask("x offset -1ms", 1000, far, far-1000, 1, 9), api.BadTime},
	} {
		got, err := engine.Query(s, c.a)
		if c.want == nil && (err != nil || len(got) == 0) || c.want != nil && (!errors.Is(err, c.want) || len(got) != 0) {
			t.Errorf("P16.1: %d: %s %v", k, told(got), err)
		}
	}
}

// P16.1: as many steps as may be, and as many samples; P3 over steps.
func TestLimits(t *testing.T) {
	s := small(t)
	got, err := engine.Query(s, ask("1", 0, 1999, 1, 1, 0))
	if err != nil || len(got) != 1 || len(got[0].Points) != 2000 {
		t.Errorf("P16.1: %v", err)
	}
	for query, touched := range map[string]int{"x": 8, "x + x": 16, "sum(delta(x[2s]))": 15, "time()": 0} {
		if _, err := engine.Query(s, ask(query, 0, 4000, 1000, 1, touched)); err != nil {
			t.Errorf("P3: %s with %d: %v", query, touched, err)
		}
		if _, err := engine.Query(s, ask(query, 0, 4000, 1000, 1, touched-1)); touched > 0 && !errors.Is(err, api.Limit) {
			t.Errorf("P3: %s with %d: %v", query, touched-1, err)
		}
	}
}

// P16.2: a step's points are what the query from that step to itself tells, and what layer 15 tells.
func TestStepByStep(t *testing.T) {
	s := small(t)
	for _, query := range []string{"time() * 2", "x", "x > 2", "-{}", "sum by (job) ({})", "rate(x[3s])", "x + x offset 1s", "topk(1, {})", "x @ 2", "vector(1) == 2", "abs(x - 12)"} {
		all, err := engine.Query(s, ask(query, -500, 6000, 500, 1500, 1000))
		if err != nil {
			t.Fatalf("%s: %v", query, err)
		}
		if !slices.IsSortedFunc(all, func(a, b api.Series) int { return label.Cmp(a.Labels, b.Labels) }) {
			t.Errorf("P16.1: %s: %s", query, told(all))
		}
		e, err := parse.Parse(query)
		if err != nil {
			t.Fatal(err)
		}
		points := 0
		for at := int64(-500); at <= 6000; at += 500 {
			var cut []api.Series
			for _, x := range all {
				for _, p := range x.Points {
					if p.T == at {
						cut = append(cut, api.Series{Labels: x.Labels, Points: []api.Point{p}})
						points++
					}
				}
			}
			one, err := engine.Query(s, ask(query, at, at, 500, 1500, 1000))
			if err != nil || told(one) != told(cut) {
				t.Errorf("P16.2: %s at %d: %s, not %s: %v", query, at, told(cut), told(one), err)
			}
			v, _, err := eval.Eval(s, e, at, 1500, 1000)
			want := []api.Series{}
			if v.Kind == api.Scalar {
				want = append(want, api.Series{Points: []api.Point{{T: at, V: v.V}}})
			}
			for _, x := range v.Elems {
				want = append(want, api.Series{Labels: x.Labels, Points: []api.Point{{T: at, V: x.V}}})
			}
			if err != nil || told(one) != told(want) {
				t.Errorf("P16.1: %s at %d: %s, not %s: %v", query, at, told(one), told(want), err)
			}
		}
		if points != store.Many(all) {
			t.Errorf("P16.2: %s: %d points of %d", query, points, store.Many(all))
		}
	}
}
