package parse_test

import (
	"errors"
	"math"
	"math/rand"
	"reflect"
	"strings"
	"testing"

	"soundings/api"
	"soundings/parse"
	"soundings/tree"
)

func num(f float64) api.Expr { return api.Expr{Kind: api.Num, V: math.Float64bits(f)} }
func pick(s string) api.Expr { return api.Expr{Kind: api.Pick, S: s} }
func text(s string) api.Expr { return api.Expr{Kind: api.Text, S: s} }
func less(kid api.Expr) api.Expr {
	return api.Expr{Kind: api.Less, Kids: []api.Expr{kid}}
}
func pair(op int, a, b api.Expr) api.Expr {
	return api.Expr{Kind: api.Pair, Op: op, Kids: []api.Expr{a, b}}
}
func call(s string, kids ...api.Expr) api.Expr { return api.Expr{Kind: api.Call, S: s, Kids: kids} }
func group(s string, how int, names []string, kids ...api.Expr) api.Expr {
	return api.Expr{Kind: api.Group, S: s, How: how, Names: names, Kids: kids}
}

// plain: lists without elements as nil, as they mean the same.
func plain(e api.Expr) api.Expr {
	if len(e.Ms) == 0 {
		e.Ms = nil
	}
	if len(e.Names) == 0 {
		e.Names = nil
	}
	var kids []api.Expr
	for _, kid := range e.Kids {
		kids = append(kids, plain(kid))
	}
	e.Kids = kids
	return e
}

// P10.1: the trees of queries.
func TestParse(t *testing.T) {
	a, b, c := pick("a"), pick("b"), pick("c")
	long := strings.Repeat("x", 200)
	for _, x := range []struct {
		s    string
		want api.Expr
	}{
		{"1", num(1)}, {" 1.5e3 # all", num(1500)}, {"Inf", num(math.Inf(1))}, {"1e999", num(math.Inf(1))}, {"NaN", api.Expr{Kind: api.Num, V: api.None}}, {"0", num(0)},
		{`""`, text("")}, {`"a\n\"\\"`, text("a\n\"\\")}, {`"` + long + `"`, text(long)}, {`"-"`, text("-")}, {`"sum"`, text("sum")},
		{"-1", less(num(1))}, {"--a", less(less(a))}, {"-a * b", pair(api.Times, less(a), b)}, {"-(a * b)", less(pair(api.Times, a, b))}, {"a - -b", pair(api.Minus, a, less(b))}, {"a--b", pair(api.Minus, a, less(b))}, {"-a offset 5s", less(api.Expr{Kind: api.Pick, S: "a", Off: 5000})},
		{"a + b * c", pair(api.Plus, a, pair(api.Times, b, c))}, {"a * b + c", pair(api.Plus, pair(api.Times, a, b), c)}, {"a - b - c", pair(api.Minus, pair(api.Minus, a, b), c)}, {"a / b * c % a", pair(api.Rest, pair(api.Times, pair(api.Over, a, b), c), a)}, {"a == b + c", pair(api.Eq, a, pair(api.Plus, b, c))}, {"a < b > c", pair(api.Gt, pair(api.Lt, a, b), c)}, {"a != b >= c <= a", pair(api.Le, pair(api.Ge, pair(api.Ne, a, b), c), a)}, {"a - (b - c)", pair(api.Minus, a, pair(api.Minus, b, c))}, {"((a))", a}, {"(a + b) * -c", pair(api.Times, pair(api.Plus, a, b), less(c))}, {"a + b == b * c + a", pair(api.Eq, pair(api.Plus, a, b), pair(api.Plus, pair(api.Times, b, c), a))},
		{"a == bool b", api.Expr{Kind: api.Pair, Op: api.Eq, Bool: true, Kids: []api.Expr{a, b}}}, {"a + bool on () b", api.Expr{Kind: api.Pair, Op: api.Plus, Bool: true, How: api.By, Kids: []api.Expr{a, b}}}, {"a * ignoring (on, sum, Inf) (b)", api.Expr{Kind: api.Pair, Op: api.Times, How: api.Without, Names: []string{"on", "sum", "Inf"}, Kids: []api.Expr{a, b}}}, {"a + on (x) b * c", api.Expr{Kind: api.Pair, Op: api.Plus, How: api.By, Names: []string{"x"}, Kids: []api.Expr{a, pair(api.Times, b, c)}}},
		{"f()", call("f")}, {"rate(a, 1 + 2, \"x\", -b)", call("rate", a, pair(api.Plus, num(1), num(2)), text("x"), less(b))}, {"f (g(a))", call("f", call("g", a))}, {"rate", pick("rate")}, {":a", pick(":a")}, {long, pick(long)},
		{"sum(a)", group("sum", 0, nil, a)}, {"sum by (x) (a)", group("sum", api.By, []string{"x"}, a)}, {"sum(a) by (x)", group("sum", api.By, []string{"x"}, a)}, {"topk without (x, y) (1, a)", group("topk", api.Without, []string{"x", "y"}, num(1), a)}, {"bottomk(1, a) without ()", group("bottomk", api.Without, nil, num(1), a)}, {"count()", group("count", 0, nil)}, {"avg by () (a, b, c, a)", group("avg", api.By, nil, a, b, c, a)}, {"min(max(a)) by (by)", group("min", api.By, []string{"by"}, group("max", 0, nil, a))},
		{"sum by (job) (rate(x[5m])) / 2", pair(api.Over, group("sum", api.By, []string{"job"}, call("rate", api.Expr{Kind: api.Pick, S: "x", Wide: 300000})), num(2))},
		{"{}", pick("")}, {"a{}", a}, {`{a="1"}`, api.Expr{Kind: api.Pick, Ms: []api.Matcher{{Op: api.Is, Name: "a", Value: "1"}}}}, {`x{a="",b!="(",c=~"a|b", __name__!~""}`, api.Expr{Kind: api.Pick, S: "x", Ms: []api.Matcher{{Op: api.Is, Name: "a"}, {Op: api.IsNot, Name: "b", Value: "("}, {Op: api.Like, Name: "c", Value: "a|b"}, {Op: api.Unlike, Name: "__name__"}}}}, {`{sum="1"}`, api.Expr{Kind: api.Pick, Ms: []api.Matcher{{Op: api.Is, Name: "sum", Value: "1"}}}},
		{"a[1ms]", api.Expr{Kind: api.Pick, S: "a", Wide: 1}}, {"{}[5m] @ 5", api.Expr{Kind: api.Pick, Wide: 300000, HasAt: true, At: 5000}}, {"a @ -5 offset -5s", api.Expr{Kind: api.Pick, S: "a", HasAt: true, At: -5000, Off: -5000}}, {"a offset 5s @ 0", api.Expr{Kind: api.Pick, S: "a", HasAt: true, Off: 5000}}, {"a offset 0s", a}, {"a offset -0s", a}, {"a @ -0", api.Expr{Kind: api.Pick, S: "a", HasAt: true}}, {"a @ 1125899906842", api.Expr{Kind: api.Pick, S: "a", HasAt: true, At: 1125899906842000}}, {"a @ -01125899906842", api.Expr{Kind: api.Pick, S: "a", HasAt: true, At: -1125899906842000}}, {"a @ 5 - 3", pair(api.Minus, api.Expr{Kind: api.Pick, S: "a", HasAt: true, At: 5000}, num(3))}, {"a offset 5s - 3", pair(api.Minus, api.Expr{Kind: api.Pick, S: "a", Off: 5000}, num(3))},
		{strings.Repeat("(", 64) + "a" + strings.Repeat(")", 64), a}, {strings.Repeat("(", 64) + "a" + strings.Repeat(")", 64) + "+(b)", pair(api.Plus, a, b)}, {"sum by (" + strings.Repeat("x,", 15) + "x) (a)", group("sum", api.By, strings.Split(strings.Repeat("x,", 15)+"x", ","), a)},
	} {
		got, err := parse.Parse(x.s)
		if err != nil || !reflect.DeepEqual(plain(got), plain(x.want)) {
			t.Errorf("P10.1: %.60q: %v %v", x.s, got, err)
		}
		if !tree.Right(got) {
			t.Errorf("P10.2: %.60q isn't right", x.s)
		}
	}
}

// P10.1: where texts are no queries, and why.
func TestParseWrong(t *testing.T) {
	long := strings.Repeat("x", 201)
	deep := strings.Repeat("(", 64)
	for _, c := range []struct {
		s    string
		at   int
		code api.Code
	}{
		{"", 0, api.BadParse}, {"  # no", 6, api.BadParse}, {"a == == b", 5, api.BadParse}, {"a b", 2, api.BadParse}, {"a +", 3, api.BadParse}, {"a + ", 4, api.BadParse}, {"* a", 0, api.BadParse}, {"a = b", 2, api.BadParse}, {"a =~ b", 2, api.BadParse}, {"5m", 0, api.BadParse}, {"a ! b", 2, api.BadToken}, {"+ 5m !", 5, api.BadToken}, {strings.Repeat("(", 4001), -1, api.Limit},
		{`a "+" b`, 2, api.BadParse}, {`"-" 1`, 4, api.BadParse}, {`"(" 1`, 4, api.BadParse}, {`f "(" )`, 2, api.BadParse}, {`(a ")"`, 3, api.BadParse}, {`a "offset" 5m`, 2, api.BadParse}, {`a "@" 5`, 2, api.BadParse}, {`{a "=" "b"}`, 3, api.BadParse}, {`a + "bool" b`, 11, api.BadParse}, {`{a="b" "," c="d"}`, 7, api.BadParse}, {`sum "by" (x) (a)`, 4, api.BadParse},
		{"(", 1, api.BadParse}, {"()", 1, api.BadParse}, {"(a", 2, api.BadParse}, {"(a]", 2, api.BadParse}, {"a)", 1, api.BadParse}, {"-", 1, api.BadParse}, {"-)", 1, api.BadParse}, {"1 2", 2, api.BadParse}, {"1(", 1, api.BadParse}, {"1[5m]", 1, api.BadParse}, {"1 offset 5m", 2, api.BadParse}, {"(a) @ 5", 4, api.BadParse}, {"\"a\" \"b\"", 4, api.BadParse}, {"\"" + long + "\"", 0, api.BadParse}, {"1 + \"" + long + "\"", 4, api.BadParse}, {long, 0, api.BadParse}, {"a + " + long, 4, api.BadParse},
		{"by", 0, api.BadParse}, {"without", 0, api.BadParse}, {"on", 0, api.BadParse}, {"ignoring", 0, api.BadParse}, {"bool", 0, api.BadParse}, {"offset", 0, api.BadParse}, {"a + offset", 4, api.BadParse}, {"a bool + b", 2, api.BadParse}, {"a + on b", 7, api.BadParse}, {"a + on (", 8, api.BadParse}, {"a + on (,", 8, api.BadParse}, {"a + on (x,)", 10, api.BadParse}, {"a + on (x y)", 10, api.BadParse}, {"a + on (x:y) b", 8, api.BadParse}, {"a + on (\"x\") b", 8, api.BadParse}, {"a + on (x) bool b", 11, api.BadParse}, {"a + on (x) on (x) b", 11, api.BadParse}, {"a + bool bool b", 9, api.BadParse}, {"a + on (" + long + ") b", 8, api.BadParse}, {"a + on (" + strings.Repeat("x,", 16) + "x) b", 39, api.BadParse}, {"Inf(", 3, api.BadParse}, {"NaN{}", 3, api.BadParse},
		{"f(", 2, api.BadParse}, {"f(,", 2, api.BadParse}, {"f(a,", 4, api.BadParse}, {"f(a,)", 4, api.BadParse}, {"f(a b", 4, api.BadParse}, {"f(a,a,a,a,a)", 9, api.BadParse}, {"f(a)(b)", 4, api.BadParse}, {"f(a)[5m]", 4, api.BadParse}, {"f(a){}", 4, api.BadParse}, {"f(a) by (x)", 5, api.BadParse}, {"f(a) offset 5m", 5, api.BadParse}, {"f by (x) (a)", 2, api.BadParse},
		{"sum", 3, api.BadParse}, {"sum + a", 4, api.BadParse}, {"sum{}", 3, api.BadParse}, {"sum by", 6, api.BadParse}, {"sum by (x)", 10, api.BadParse}, {"sum by (x) a", 11, api.BadParse}, {"sum by (x) (a) by (x)", 15, api.BadParse}, {"sum(a) by (x) without (x)", 14, api.BadParse}, {"sum(a) on (x)", 7, api.BadParse}, {"sum by x", 7, api.BadParse}, {"sum(a,a,a,a,", 11, api.BadParse}, {"sum(a)[5m]", 6, api.BadParse},
		{"{", 1, api.BadParse}, {"{a", 2, api.BadParse}, {"{a}", 2, api.BadParse}, {"{a=", 3, api.BadParse}, {"{a=b}", 3, api.BadParse}, {"{a==\"b\"}", 2, api.BadParse}, {"{a=\"b\"", 6, api.BadParse}, {"{a=\"b\",}", 7, api.BadParse}, {"{,", 1, api.BadParse}, {"{\"a\"=\"b\"}", 1, api.BadParse}, {"{a:b=\"b\"}", 1, api.BadParse}, {"{a=\"b\" c", 7, api.BadParse}, {"{a>\"b\"}", 2, api.BadParse}, {"{a=5}", 3, api.BadParse}, {"{a=\"" + long + "\"}", 3, api.BadParse}, {"{a=~\"" + long + "\"}", 4, api.BadParse}, {"{}{}", 2, api.BadParse}, {"{}()", 2, api.BadParse}, {"a{}(", 3, api.BadParse}, {"{} a", 3, api.BadParse}, {"{" + strings.Repeat("a=\"\",", 10) + "a=\"\"}", 50, api.BadParse}, {"{a=\"b\"]", 6, api.BadParse},
		{"{a=~\"(\"}", 4, api.BadPattern}, {"{a!~\"*\"}", 4, api.BadPattern}, {"{a=~\"" + strings.Repeat("(", 33) + strings.Repeat(")", 33) + "\"}", 4, api.BadPattern}, {"{b=\"(\", a=~ \"{\" !", 16, api.BadToken}, {"{b=\"(\", a=~ \"{\" =", 12, api.BadPattern},
		{"a[", 2, api.BadParse}, {"a[]", 2, api.BadParse}, {"a[5]", 2, api.BadParse}, {"a[5m", 4, api.BadParse}, {"a[5m)", 4, api.BadParse}, {"a[-5m]", 2, api.BadParse}, {"a[0s]", 2, api.BadNumber}, {"a[0y0ms]", 2, api.BadNumber}, {"a[5m][5m]", 5, api.BadParse}, {"a[5m:1m]", 2, api.BadToken}, {"a @ 5[5m]", 5, api.BadParse}, {"a[5m]{}", 5, api.BadParse}, {"a[x]", 2, api.BadParse},
		{"a @", 3, api.BadParse}, {"a @ -", 5, api.BadParse}, {"a @ - - 5", 6, api.BadParse}, {"a @ x", 4, api.BadParse}, {"a @ 5m", 4, api.BadParse}, {"a @ 1.5", 4, api.BadNumber}, {"a @ -1e3", 5, api.BadNumber}, {"a @ 5.", 4, api.BadNumber}, {"a @ 1125899906843", 4, api.BadNumber}, {"a @ -1125899906843", 5, api.BadNumber}, {"a @ 99999999999999999999999", 4, api.BadNumber}, {"a @ 5 @ 5", 6, api.BadParse}, {"a @ Inf", 4, api.BadParse}, {"a @ (5)", 4, api.BadParse}, {"a @ \"5\"", 4, api.BadParse},
		{"a offset", 8, api.BadParse}, {"a offset 5", 9, api.BadParse}, {"a offset -", 10, api.BadParse}, {"a offset x", 9, api.BadParse}, {"a offset 5m offset 5m", 12, api.BadParse}, {"a offset 5m @ 5 offset 5m", 16, api.BadParse}, {"a offset 5m @ 5 @ 5", 16, api.BadParse}, {"a offset 5m[5m]", 11, api.BadParse}, {"a offset 0s offset 0s", 12, api.BadParse},
		{deep + "(", 64, api.Deep}, {deep, 64, api.BadParse}, {deep + "-", 64, api.Deep}, {strings.Repeat("-", 65) + "a", 64, api.Deep}, {strings.Repeat("-", 64), 64, api.BadParse}, {strings.Repeat("f(", 65), 129, api.Deep}, {strings.Repeat("sum(", 65), 259, api.Deep}, {deep + "sum by (x) (", 75, api.Deep}, {deep + "a - (", 68, api.Deep}, {deep + "a - -", 68, api.Deep}, {deep + "a(", 65, api.Deep}, {deep + "a)(", 66, api.BadParse}, {deep + "a) - (b) - -b - (-", 81, api.Deep}, {strings.Repeat("(-f(", 21) + "((", 85, api.Deep}, {deep + "1(", 65, api.BadParse}, {deep + "]", 64, api.BadParse},
	} {
		got, err := parse.Parse(c.s)
		var f *api.Fault
		if !errors.Is(err, c.code) || !reflect.DeepEqual(got, api.Expr{}) {
			t.Errorf("P10.1: %.60q: %v %v, want %v", c.s, got, err, c.code)
		} else if c.at >= 0 && (!errors.As(err, &f) || f.At != c.at) {
			t.Errorf("P10.1: %.60q: %v, want %d", c.s, err, c.at)
		}
	}
}

// P10.1: a "-" counts as open till the end of its One alone, and no "(" of names counts.
func TestOpen(t *testing.T) {
	for _, s := range []string{strings.Repeat("-a-", 500) + "b", strings.Repeat("(a)+", 500) + "b", strings.Repeat("(", 63) + "-a-(b)" + strings.Repeat(")", 63), strings.Repeat("(", 64) + "a + on (x) {a=\"(\"}" + strings.Repeat(")", 64), strings.Repeat("(", 63) + "sum by (x) (a)" + strings.Repeat(")", 63), strings.Repeat("(", 64) + "a @ -5 offset -5m - 3" + strings.Repeat(")", 64), strings.Repeat("-", 63) + "sum(a) by (x)"} {
		if e, err := parse.Parse(s); err != nil || !tree.Right(e) {
			t.Errorf("P10.1: %.80q: %v", s, err)
		}
	}
}

func someTree(r *rand.Rand, deep int) api.Expr {
	names := func() []string {
		var out []string
		for range r.Intn(3) {
			out = append(out, []string{"a", "job", "by", "sum", "__name__"}[r.Intn(5)])
		}
		return out
	}
	kids := func(n int) []api.Expr {
		var out []api.Expr
		for range n {
			out = append(out, someTree(r, deep-1))
		}
		return out
	}
	kind := 1 + r.Intn(3)
	if deep > 0 {
		kind = 1 + r.Intn(7)
		if r.Intn(3) == 0 {
			kind = api.Pair
		}
	}
	e := api.Expr{Kind: kind}
	switch kind {
	case api.Num:
		e.V = []uint64{0, 1, api.None, math.Float64bits(math.Inf(1)), math.Float64bits(float64(r.Intn(1e6)) / 64), math.Float64bits(1e300 * r.Float64())}[r.Intn(6)]
	case api.Text:
		e.S = []string{"", "a", "\"", "\\n\n", "é#"}[r.Intn(5)]
	case api.Pick:
		e.S = []string{"", "x", "rate", "a:b", "time"}[r.Intn(5)]
		for range r.Intn(3) {
			e.Ms = append(e.Ms, api.Matcher{Op: 1 + r.Intn(4), Name: "on", Value: []string{"", "a|b", "\\."}[r.Intn(3)]})
		}
		e.Wide, e.Off = r.Int63n(2)*r.Int63n(1e9), r.Int63n(2)*(r.Int63n(2e9)-1e9)
		if r.Intn(2) == 0 {
			e.HasAt, e.At = true, 1000*(r.Int63n(2000)-1000)
		}
	case api.Call:
		e.S, e.Kids = []string{"rate", "f", "a:b"}[r.Intn(3)], kids(r.Intn(5))
	case api.Group:
		e.S, e.Kids = []string{"sum", "topk", "min"}[r.Intn(3)], kids(r.Intn(5))
	case api.Pair:
		e.Op, e.Bool, e.Kids = 1+r.Intn(11), r.Intn(4) == 0, kids(2)
	case api.Less:
		e.Kids = kids(1)
	}
	if (kind == api.Group || kind == api.Pair) && r.Intn(2) == 0 {
		e.How, e.Names = 1+r.Intn(2), names()
	}
	return e
}

// P10.2: the text of a right tree is parsed to that tree.
func TestPrintParse(t *testing.T) {
	r := rand.New(rand.NewSource(1))
	for range 20000 {
		e := someTree(r, r.Intn(5))
		s, err := tree.Print(e)
		if err != nil {
			t.Fatalf("P9.2: %v: %v", e, err)
		}
		if len(s) > api.MaxQuery {
			continue
		}
		got, err := parse.Parse(s)
		if err != nil || !reflect.DeepEqual(plain(got), plain(e)) {
			t.Fatalf("P10.2: %s: %v %v, want %v", s, got, err, e)
		}
	}
}
