package script_test

import (
	"errors"
	"math"
	"math/rand"
	"reflect"
	"slices"
	"strconv"
	"strings"
	"testing"

	"soundings/api"
	"soundings/engine"
	"soundings/label"
	"soundings/script"
	"soundings/store"
	"soundings/value"
)

func bits(f float64) uint64 {
	if f != f {
		return api.None
	}
	return math.Float64bits(f)
}

// labels: as "a=1 b=2".
func labels(s string) []api.Label {
	var out []api.Label
	for _, x := range strings.Fields(s) {
		n, v, _ := strings.Cut(x, "=")
		out = append(out, api.Label{Name: n, Value: v})
	}
	return out
}

func sample(l string, t int64, f float64) api.Add {
	return api.Add{Labels: labels(l), T: t, V: bits(f)}
}

// told: series as "a=1: 1000 5, 2000 6; b=1: 1000 7".
func told(s []api.Series) string {
	var out []string
	for _, x := range s {
		var l, p []string
		for _, y := range x.Labels {
			l = append(l, y.Name+"="+y.Value)
		}
		for _, y := range x.Points {
			v := value.Text(y.V)
			if y.V == api.Stale {
				v = "stale"
			}
			p = append(p, strconv.FormatInt(y.T, 10)+" "+v)
		}
		out = append(out, strings.Join(l, " ")+": "+strings.Join(p, ", "))
	}
	return strings.Join(out, "; ")
}

// P17.1: the store of samples, and the code of each.
func TestLoad(t *testing.T) {
	stale, odd := sample("b=1", 5, 0), sample("b=1", 6, 0)
	stale.V, odd.V = api.Stale, math.MaxUint64
	in := []api.Add{
		sample("b=1", 1, 1), sample("b=1", 1, 1), sample("a=1", 7, 2), sample("a=2 a=2", 1, 1), sample("", 1, 1), sample("a=", 1, 1), sample("c=1", api.MaxTime+1, 1), sample("c=1 1=1", api.MaxTime+1, 1),
		sample("b=1", 0, 1), stale, sample("b=1", 5, 9), odd, sample("z= A=1 a=1", -api.MaxTime, 3), sample("a=1 A=1", -api.MaxTime, 3), sample("a=1 A=1", api.MaxTime, 4), sample("a=1", 6, 2), sample("a=1", 8, 2), sample("a=1", math.MinInt64, 2),
	}
	was := slices.Clone(in)
	s, codes := script.Load(in)
	want := []api.Code{0, api.BadOrder, 0, api.BadLabel, api.BadLabel, api.BadLabel, api.BadTime, api.BadLabel, api.BadOrder, 0, api.BadOrder, 0, 0, api.BadOrder, 0, api.BadOrder, 0, api.BadTime}
	if !slices.Equal(codes, want) {
		t.Errorf("P17.1: %v", codes)
	}
	if got := told(s); got != "A=1 a=1: -1125899906842624 3, 1125899906842624 4; a=1: 7 2, 8 2; b=1: 1 1, 5 stale, 6 NaN" || !store.Right(s) {
		t.Errorf("P17.1: %s", got)
	}
	if !reflect.DeepEqual(in, was) {
		t.Error("rule 3: changed")
	}
	if s, codes := script.Load(nil); len(s) != 0 || len(codes) != 0 {
		t.Errorf("P17.1: of none: %v %v", s, codes)
	}
}

func someSamples(r *rand.Rand, n int) []api.Add {
	all := []string{"__name__=x job=a", "__name__=x job=b", "__name__=y job=a", "__name__=y job=a z=1", "job=a", "A=1 __name__=x", "__name__=x", "job=c __name__=y", "a=1 a=1", "", "é=1", "__name__=y job=b"}
	numbers := []uint64{bits(0), bits(1), bits(2), bits(3.5), bits(-1), bits(10), bits(0.1), bits(math.Inf(1)), api.None, api.Stale, math.MaxUint64, bits(math.Copysign(0, -1))}
	var out []api.Add
	now := int64(0)
	for range n {
		now += int64(r.Intn(700)) - 100
		x := api.Add{Labels: labels(all[r.Intn(len(all))]), T: now, V: numbers[r.Intn(len(numbers))]}
		r.Shuffle(len(x.Labels), func(i, j int) { x.Labels[i], x.Labels[j] = x.Labels[j], x.Labels[i] })
		if r.Intn(40) == 0 {
			x.T = []int64{api.MaxTime + 1, math.MinInt64}[r.Intn(2)]
		}
		out = append(out, x)
	}
	return out
}

// P17.1: any samples, held against appending one by one.
func TestLoadByAppend(t *testing.T) {
	r := rand.New(rand.NewSource(1))
	for range 500 {
		in := someSamples(r, r.Intn(60))
		var want []api.Series
		var codes []api.Code
		for _, x := range in {
			next, err := store.Append(want, x.Labels, api.Point{T: x.T, V: x.V})
			var c api.Code
			if err != nil && !errors.As(err, &c) {
				t.Fatal(err)
			}
			if err == nil {
				want = next
			}
			codes = append(codes, c)
		}
		s, got := script.Load(in)
		if !slices.Equal(got, codes) || len(s) != len(want) || len(s) > 0 && !reflect.DeepEqual(s, want) {
			t.Fatalf("P17.1: %v: %s %v, want %s %v", in, told(s), got, told(want), codes)
		}
	}
}

// P17.2: codes, and what the query tells, or what is wrong with it.
func TestRun(t *testing.T) {
	in := []api.Add{sample("__name__=x", 1000, 1), sample("__name__=x", 1000, 1), sample("__name__=x", 2000, 3)}
	want := []api.Code{0, api.BadOrder, 0}
	for _, c := range []struct {
		query string
		most  int
		told  string
		wrong error
		at    int
	}{
		{"x", 9, "__name__=x: 1000 1, 2000 3", nil, 0}, {"x * 2", 2, ": 1000 2, 2000 6", nil, 0}, {"x", 1, "", api.Limit, -1}, {"a == == b", 9, "", api.BadParse, 5}, {"rate(x)", 9, "", api.BadType, -1}, {"x", -1, "", api.BadRange, -1}, {"!", 9, "", api.BadToken, 0},
	} {
		a := api.Ask{Query: c.query, Start: 1000, End: 2000, Step: 1000, Back: 1, Most: c.most}
		codes, got, err := script.Run(in, a)
		if !slices.Equal(codes, want) || told(got) != c.told || (err == nil) != (c.wrong == nil) || c.wrong != nil && !errors.Is(err, c.wrong) {
			t.Errorf("P17.2: %s: %v %s %v", c.query, codes, told(got), err)
		}
		var f *api.Fault
		if c.wrong != nil && c.at >= 0 && (!errors.As(err, &f) || f.At != c.at) {
			t.Errorf("P17.2: %s: %v", c.query, err)
		}
		s, _ := script.Load(in)
		if again, err2 := engine.Query(s, a); told(again) != told(got) || (err2 == nil) != (err == nil) || err != nil && err2.Error() != err.Error() {
			t.Errorf("P17.2: %s: %s %v", c.query, told(again), err2)
		}
	}
}

// The document's ten examples of the whole.
func TestExamples(t *testing.T) {
	x := []api.Add{sample("__name__=x", 1000, 1)}
	stale := append(slices.Clone(x), api.Add{Labels: labels("__name__=x"), T: 1200, V: api.Stale})
	jobs := []api.Add{sample("__name__=x job=a n=1", 1000, 1), sample("__name__=x job=a n=2", 1000, 2), sample("__name__=x job=b n=1", 1000, 4), sample("__name__=y job=a n=1", 1000, 7)}
	grows := []api.Add{sample("__name__=x", 0, 0), sample("__name__=x", 100000, 100), sample("__name__=x", 200000, 200), sample("__name__=x", 300000, 300)}
	for k, c := range []struct {
		in               []api.Add
		query            string
		start, end, back int64
		want             string
	}{
		{x, "x", 1500, 1500, 1000, "__name__=x: 1500 1"}, {x, "x", 2000, 2000, 1000, ""}, {stale, "x", 1500, 1500, 1000, ""},
		{jobs, "sum by (job) (x)", 1000, 1000, 1, "job=a: 1000 3; job=b: 1000 4"}, {jobs, "x + y", 1000, 1000, 1, "job=a n=1: 1000 8"}, {jobs, "x > 2", 1000, 1000, 1, "__name__=x job=b n=1: 1000 4"},
		{grows, "rate(x[5m])", 300000, 300000, 1, ": 300000 1"},
		{append(slices.Clone(x), x...), "x", 1000, 1000, 1, "__name__=x: 1000 1"}, {nil, "time()", 1000, 3000, 1, ": 1000 1, 2000 2, 3000 3"},
	} {
		_, got, err := script.Run(c.in, api.Ask{Query: c.query, Start: c.start, End: c.end, Step: 1000, Back: c.back, Most: 100})
		if err != nil || told(got) != c.want {
			t.Errorf("P1: example %d: %s %v", k, told(got), err)
		}
	}
}

// P17.3 and P5: samples of unlike labels in another order, and without those that aren't accepted.
func TestAnyOrder(t *testing.T) {
	r := rand.New(rand.NewSource(2))
	queries := []string{"x", "{}", "sum by (job) ({})", "rate(x[2s])", "-{}", "x + on (job) y", "topk(2, {})", "x > 1", `count({job=~"a|b"})`, "avg(x)"}
	for range 400 {
		in := someSamples(r, 40)
		_, codes := script.Load(in)
		byLabels := map[string][]api.Add{}
		var keys []string
		for k, x := range in {
			if codes[k] != 0 && r.Intn(2) == 0 {
				continue
			}
			made, err := label.Make(x.Labels)
			name := told([]api.Series{{Labels: made}})
			if err != nil {
				name = "wrong"
			}
			byLabels[name] = append(byLabels[name], x)
			keys = append(keys, name)
		}
		r.Shuffle(len(keys), func(i, j int) { keys[i], keys[j] = keys[j], keys[i] })
		var mixed []api.Add
		for _, name := range keys {
			mixed = append(mixed, byLabels[name][0])
			byLabels[name] = byLabels[name][1:]
		}
		a := api.Ask{Query: queries[r.Intn(len(queries))], Start: 0, End: 12000, Step: 700, Back: 2000, Most: 1000}
		first, _ := script.Load(in)
		second, _ := script.Load(mixed)
		_, got, err := script.Run(in, a)
		_, again, err2 := script.Run(mixed, a)
		if told(first) != told(second) || !reflect.DeepEqual(got, again) || (err == nil) != (err2 == nil) || err != nil && err.Error() != err2.Error() {
			t.Fatalf("P17.3: %s: %s %v, not %s %v", a.Query, told(again), err2, told(got), err)
		}
	}
}

// Many samples are loaded in a time that grows with their number, not with its square.
func TestLoadMany(t *testing.T) {
	var in []api.Add
	for k := range 200000 {
		in = append(in, sample("n="+strconv.Itoa(k%1000), int64(k), 1))
	}
	s, codes := script.Load(in)
	if len(s) != 1000 || store.Many(s) != 200000 || len(codes) != 200000 || slices.Max(codes) != 0 {
		t.Errorf("P17.1: %d series of %d points", len(s), store.Many(s))
	}
}
