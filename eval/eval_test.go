package eval_test

import (
	"errors"
	"math"
	"reflect"
	"slices"
	"strings"
	"testing"

	"soundings/api"
	"soundings/eval"
	"soundings/group"
	"soundings/parse"
	"soundings/store"
	"soundings/value"
)

func bits(f float64) uint64 {
	if f != f {
		return api.None
	}
	return math.Float64bits(f)
}

// labels: as "a=1 b=2".
func labels(s string) []api.Label {
	var out []api.Label
	for _, x := range strings.Fields(s) {
		n, v, _ := strings.Cut(x, "=")
		out = append(out, api.Label{Name: n, Value: v})
	}
	return out
}

// made: a store of lines as "a=1 b=2: 1000 5, 2000 7, 3000 stale".
func made(t *testing.T, lines ...string) []api.Series {
	var s []api.Series
	for _, line := range lines {
		l, points, _ := strings.Cut(line, ":")
		for _, p := range strings.Split(points, ",") {
			f := strings.Fields(p)
			at, err := value.Parse(f[0])
			if err != nil {
				t.Fatal(line)
			}
			v, err := value.Parse(f[1])
			if f[1] == "stale" {
				v, err = api.Stale, nil
			}
			if err != nil {
				t.Fatal(line)
			}
			s, err = store.Append(s, labels(l), api.Point{T: int64(math.Float64frombits(at)), V: v})
			if err != nil {
				t.Fatal(line, err)
			}
		}
	}
	return s
}

func tree(t *testing.T, s string) api.Expr {
	e, err := parse.Parse(s)
	if err != nil {
		t.Fatalf("%s: %v", s, err)
	}
	return e
}

// told: a value as a text: a number, or "a=1 5, b=1 NaN".
func told(v api.Value) string {
	if v.Kind == api.Scalar {
		return value.Text(v.V)
	}
	var out []string
	for _, x := range v.Elems {
		var l []string
		for _, y := range x.Labels {
			l = append(l, y.Name+"="+y.Value)
		}
		out = append(out, strings.Join(append(l, value.Text(x.V)), " "))
	}
	return strings.Join(out, ", ")
}

var small = []string{
	"__name__=x job=a: 1000 1, 2000 2, 3000 4, 4000 8",
	"__name__=x job=b: 1000 10, 2000 20, 3000 stale",
	"__name__=y job=a: 500 3, 4000 -5",
	"__name__=z: 4000 NaN",
	"job=c: 4000 -0",
}

// P15.1: what queries come to, and how many samples they touch.
func TestEval(t *testing.T) {
	s := made(t, small...)
	for _, c := range []struct {
		query   string
		t, back int64
		want    string
		touched int
	}{
		{"1", 0, 1, "1", 0}, {"-1", 0, 1, "-1", 0}, {"-0", 0, 1, "-0", 0}, {"--0", 0, 1, "0", 0}, {"-NaN", 0, 1, "NaN", 0}, {"Inf - Inf", 0, 1, "NaN", 0}, {"-Inf", 0, 1, "-Inf", 0}, {"time()", 1500, 1, "1.5", 0}, {"time()", -1, 1, "-0.001", 0}, {"time()", api.MaxTime, 1, "1.125899906842624e+12", 0}, {"1 + 2 * 3 - 4 / 8 % 3", 0, 1, "6.5", 0}, {"1 > bool 2", 0, 1, "0", 0}, {"1 / 0", 0, 1, "+Inf", 0},
		{"x", 1500, 1000, "__name__=x job=a 1, __name__=x job=b 10", 2}, {"x", 2000, 1000, "__name__=x job=a 2, __name__=x job=b 20", 2}, {"x", 3000, 5000, "__name__=x job=a 4", 1}, {"x", 4999, 999, "", 0}, {"x", 4999, 1000, "__name__=x job=a 8", 1}, {"x", 999, 5000, "", 0}, {"nothing", 4000, 5000, "", 0},
		{"{}", 4000, 1, "__name__=x job=a 8, __name__=y job=a -5, __name__=z NaN, job=c -0", 4}, {`{job=~"a|c"}`, 4000, 1, "__name__=x job=a 8, __name__=y job=a -5, job=c -0", 3}, {`x{job!="b"}`, 2000, 1, "__name__=x job=a 2", 1}, {`x{__name__="y"}`, 4000, 9, "", 0}, {`{__name__="y"}`, 4000, 9, "__name__=y job=a -5", 1}, {`{__name__=""}`, 4000, 9, "job=c -0", 1}, {`x{job=~"a",job!~"a"}`, 4000, 9, "", 0},
		{"x offset 1s", 3000, 1, "__name__=x job=a 2, __name__=x job=b 20", 2}, {"x offset -1s", 3000, 1, "__name__=x job=a 8", 1}, {"x @ 1", 9000, 1, "__name__=x job=a 1, __name__=x job=b 10", 2}, {"x @ 3 offset 1s", 9000, 1, "__name__=x job=a 2, __name__=x job=b 20", 2}, {"x @ -1 offset -3s", 9000, 1, "__name__=x job=a 2, __name__=x job=b 20", 2}, {"x offset 1ms", 1000, 9000, "", 0},
		{"-x", 2000, 1, "job=a -2, job=b -20", 2}, {"-z", 4000, 1, "NaN", 1}, {"abs(y)", 4000, 1, "job=a 5", 1}, {"abs(z)", 4000, 1, "NaN", 1}, {`abs({job="c"})`, 4000, 1, "job=c 0", 1}, {`-{job="c"}`, 4000, 1, "job=c 0", 1}, {"vector(2)", 0, 1, "2", 0}, {"vector(time() - 5)", 1000, 1, "-4", 0}, {"vector(NaN)", 0, 1, "NaN", 0}, {"-vector(1)", 0, 1, "-1", 0},
		{"sum(x)", 2000, 1, "22", 2}, {"sum by (job) ({})", 4000, 1, "NaN, job=a 3, job=c -0", 4}, {"count without (job) (x)", 2000, 1, "2", 2}, {"max(nothing)", 0, 1, "", 0}, {"topk(1, x)", 2000, 1, "__name__=x job=b 20", 2}, {"bottomk(time() / 2, x)", 2000, 1, "__name__=x job=a 2", 2}, {"topk(0, x)", 2000, 1, "", 2}, {"topk by (job) (1, {})", 4000, 1, "__name__=x job=a 8, __name__=z NaN, job=c -0", 4}, {"avg(x) + 1", 2000, 1, "12", 2},
		{"x + y", 2000, 5000, "job=a 5", 3}, {"x - on (job) y", 4000, 1, "job=a 13", 2}, {"x > 2", 2000, 1, "__name__=x job=b 20", 2}, {"2 < x", 2000, 1, "__name__=x job=b 20", 2}, {"x > bool 2", 2000, 1, "job=a 0, job=b 1", 2}, {"x == x", 2000, 1, "__name__=x job=a 2, __name__=x job=b 20", 4}, {"x * 2 + x", 2000, 1, "job=a 6, job=b 60", 4}, {"10 - x - 1", 2000, 1, "job=a 7, job=b -11", 2}, {"x / ignoring (job) vector(2)", 4000, 1, "4", 1}, {"sum(x) / count(x)", 2000, 1, "11", 4}, {"x >= on (job) y", 4000, 1, "job=a 8", 2},
		{"delta(x[3s])", 4000, 1, "job=a 9", 4}, {"increase(x[3s] @ 4)", 0, 1, "job=a 8", 4}, {"rate(x[3s] offset -4s)", 0, 1, "job=a 2.6666666666666665", 4}, {"rate(x[1s])", 4000, 1, "", 1}, {"rate(x[2001ms])", 3000, 1, "job=a 1.5, job=b 10", 5}, {"sum(increase(x[1h]))", 4000, 1, "33", 6},
	} {
		was := made(t, small...)
		v, n, err := eval.Eval(s, tree(t, c.query), c.t, c.back, 100)
		if err != nil || told(v) != c.want || n != c.touched {
			t.Errorf("P15.1: %s at %d: %s, %d %v", c.query, c.t, told(v), n, err)
		}
		if v.Kind == api.Scalar && len(v.Elems) != 0 || v.Kind == api.Vector && v.V != 0 {
			t.Errorf("rule 2: %s: %v", c.query, v)
		}
		if !reflect.DeepEqual(s, was) {
			t.Fatalf("rule 3: %s: changed", c.query)
		}
		// P3: with as many as it touches it is answered, with fewer it is Limit.
		if v, n, err := eval.Eval(s, tree(t, c.query), c.t, c.back, c.touched); err != nil || told(v) != c.want || n != c.touched {
			t.Errorf("P3: %s: %v", c.query, err)
		}
		if v, n, err := eval.Eval(s, tree(t, c.query), c.t, c.back, c.touched-1); c.touched > 0 && (!errors.Is(err, api.Limit) || n != 0 || v.Kind != 0) {
			t.Errorf("P3: %s: %v %v", c.query, v, err)
		}
	}
}

// P15.1: what goes wrong, by what comes first.
func TestEvalWrong(t *testing.T) {
	s := made(t, "__name__=x job=a: 1000 1, 2000 2", "__name__=y job=a: 1000 1, 2000 2", "__name__=y job=b: 1000 1, 2000 3")
	swapped := []api.Series{s[1], s[0]}
	both := `{job="a"}`
	for _, c := range []struct {
		s       []api.Series
		query   string
		t, back int64
		most    int
		want    api.Code
	}{
		{swapped, `"a"`, api.MaxTime + 1, 0, 0, api.BadOrder}, {s, `"a"`, api.MaxTime + 1, 0, 0, api.BadType}, {s, "x[5m]", 0, 1, 9, api.BadType}, {s, "rate(x)", api.MaxTime + 1, 0, 9, api.BadType}, {s, "1 == 1", 0, 1, 9, api.BadType},
		{s, "1", api.MaxTime + 1, 1, 9, api.BadTime}, {s, "1", -api.MaxTime - 1, 1, 9, api.BadTime}, {s, "1", 0, 0, 9, api.BadTime}, {s, "1", 0, -1, 9, api.BadTime}, {s, "1", 0, api.MaxSpan + 1, 9, api.BadTime}, {s, "1", math.MinInt64, 1, 9, api.BadTime}, {s, "1", math.MaxInt64, 1, 9, api.BadTime}, {s, "1", 0, math.MinInt64, 9, api.BadTime},
		{s, "x offset 1ms", -api.MaxTime, 1, 9, api.BadTime}, {s, "x offset -1ms", api.MaxTime, 1, 9, api.BadTime}, {s, "rate(x[1s] offset 1s)", -api.MaxTime, 1, 9, api.BadTime}, {s, "x @ 1125899906842 offset -1s", 0, 1, 9, api.BadTime}, {s, "nothing offset 1s", -api.MaxTime, 1, 9, api.BadTime},
		{s, "-" + both, 1000, 1, 9, api.Twice}, {s, "abs(" + both + ")", 1000, 1, 9, api.Twice}, {s, both + " + 1", 1000, 1, 9, api.Twice}, {s, "1 > bool " + both, 1000, 1, 9, api.Twice}, {s, `rate({job="a"}[5s])`, 2000, 1, 9, api.Twice}, {s, "sum(-" + both + ")", 1000, 1, 9, api.Twice},
		{s, "x + " + both, 1000, 1, 9, api.Many}, {s, both + " == x", 1000, 1, 9, api.Many}, {s, "vector(1) + on () y", 1000, 1, 9, api.Many},
		{s, "x", 1000, 1, 0, api.Limit}, {s, "x", 1000, 1, -1, api.Limit}, {s, "nothing", 1000, 1, -1, api.Limit}, {s, "y", 1000, 1, 1, api.Limit}, {s, "x + y", 1000, 1, 2, api.Limit}, {s, "rate(x[5s])", 2000, 1, 1, api.Limit}, {s, "topk(0, y)", 2000, 1, 1, api.Limit},
		// The first of two.
		{s, "x + x offset 1000y", 1000, 1, 0, api.Limit}, {s, "x @ -1125899906842 offset 1000y + x", 1000, 1, 0, api.BadTime}, {s, "-" + both + " + x @ -1125899906842 offset 1000y", 1000, 1, 9, api.Twice}, {s, "x + " + both + " + -" + both, 1000, 1, 99, api.Many}, {s, "x + (" + both + " + 1)", 1000, 1, 99, api.Twice}, {s, `rate({job="a"}[5s])`, 2000, 1, 3, api.Limit}, {s, "-" + both, 1000, 1, 1, api.Limit}, {s, "x + " + both, 1000, 1, 2, api.Limit}, {s, "rate(x[5s] @ -1125899906842 offset 1000y)", 1000, 1, -1, api.BadTime}, {s, "x @ -1125899906842 offset 1000y", 1000, 1, -1, api.BadTime}, {s, "x * 1 + (x offset 1000y @ -1125899906842)", 1000, 1, 0, api.Limit},
	} {
		v, n, err := eval.Eval(c.s, tree(t, c.query), c.t, c.back, c.most)
		if !errors.Is(err, c.want) || n != 0 || v.Kind != 0 || v.V != 0 || len(v.Elems) != 0 {
			t.Errorf("P15.1: %s at %d: %v %d %v, want %v", c.query, c.t, v, n, err, c.want)
		}
	}
	for k, e := range []api.Expr{{}, {Kind: api.Call, S: "sum"}, {Kind: 77}} {
		if _, _, err := eval.Eval(s, e, math.MaxInt64, 0, 0); !errors.Is(err, api.BadParse) {
			t.Errorf("P15.1: %d: %v", k, err)
		}
	}
	if v, n, err := eval.Eval(s, tree(t, "time() + 1"), 1000, 1, -1); err != nil || told(v) != "2" || n != 0 {
		t.Errorf("P15.1: no pick, no limit: %v %d %v", v, n, err)
	}
	for _, at := range []int64{-api.MaxTime, api.MaxTime} {
		if _, _, err := eval.Eval(s, tree(t, "x + x"), at, api.MaxSpan, 0); err != nil {
			t.Errorf("P15.1: the edges of times: %v", err)
		}
	}
}

// P15.1 and P15.2: what comes is a vector, in order, also where labels without names come in another one.
func TestEvalOrder(t *testing.T) {
	s := made(t, "__name__=a job=2: 1000 1, 2000 2", "__name__=b job=1: 1000 3, 2000 9", "A=z __name__=c: 1000 4, 2000 4")
	for query, want := range map[string]string{
		"-{}": "A=z -4, job=1 -3, job=2 -1", "abs({})": "A=z 4, job=1 3, job=2 1", "{} * 2": "A=z 8, job=1 6, job=2 2", "{} + {}": "A=z 8, job=1 6, job=2 2", "delta({}[1s] @ 2)": "", "delta({}[1001ms] @ 2)": "A=z 0, job=1 6.005999999999999, job=2 1.001",
	} {
		v, _, err := eval.Eval(s, tree(t, query), 1000, 1, 100)
		if err != nil || told(v) != want || !group.Right(v.Elems) {
			t.Errorf("P15.2: %s: %s %v", query, told(v), err)
		}
	}
}

// Rule 3: what is answered has memory of its own.
func TestOwnMemory(t *testing.T) {
	s := made(t, small...)
	was := made(t, small...)
	for _, query := range []string{"x", "x > 0", "x == x", "topk(5, x)", "-x", "sum by (job) (x)", "x + on (job) x"} {
		v, _, err := eval.Eval(s, tree(t, query), 2000, 1, 100)
		if err != nil || len(v.Elems) == 0 {
			t.Errorf("%s: %v", query, err)
		}
		for _, x := range v.Elems {
			for k := range x.Labels {
				x.Labels[k].Value = "changed"
			}
		}
	}
	e := tree(t, `x{job="a"}`)
	e.Ms = append(slices.Clip(e.Ms), api.Matcher{Name: "spare"})[:1]
	if _, _, err := eval.Eval(s, e, 2000, 1, 100); err != nil || e.Ms[:2][1].Name != "spare" {
		t.Errorf("rule 3: spare room: %v", err)
	}
	if !reflect.DeepEqual(s, was) {
		t.Error("rule 3: changed")
	}
}

// Rule 5: pairs that go down very far.
func TestFarDown(t *testing.T) {
	e := api.Expr{Kind: api.Num}
	for range 100000 {
		e = api.Expr{Kind: api.Pair, Op: api.Plus, Kids: []api.Expr{e, {Kind: api.Num, V: bits(1)}}}
	}
	if v, n, err := eval.Eval(nil, e, 0, 1, 0); told(v) != "100000" || n != 0 || err != nil {
		t.Errorf("P15.1: %v %v", v, err)
	}
}
