package tree_test

import (
	"errors"
	"math"
	"math/rand"
	"slices"
	"strings"
	"testing"

	"soundings/api"
	"soundings/tree"
)

func num(f float64) api.Expr { return api.Expr{Kind: api.Num, V: math.Float64bits(f)} }
func pick(s string) api.Expr { return api.Expr{Kind: api.Pick, S: s} }
func less(kid api.Expr) api.Expr {
	return api.Expr{Kind: api.Less, Kids: []api.Expr{kid}}
}
func pair(op int, a, b api.Expr) api.Expr {
	return api.Expr{Kind: api.Pair, Op: op, Kids: []api.Expr{a, b}}
}
func call(s string, kids ...api.Expr) api.Expr { return api.Expr{Kind: api.Call, S: s, Kids: kids} }
func group(s string, how int, names []string, kids ...api.Expr) api.Expr {
	return api.Expr{Kind: api.Group, S: s, How: how, Names: names, Kids: kids}
}

// with: a part that differs in one thing.
func with(e api.Expr, change func(e *api.Expr)) api.Expr {
	change(&e)
	return e
}

func many(n int) []string { return slices.Repeat([]string{"a"}, n) }

func matchers(n int) []api.Matcher {
	return slices.Repeat([]api.Matcher{{Op: api.Like, Name: "a", Value: ".*"}}, n)
}

func chain(n int, make func(api.Expr) api.Expr) api.Expr {
	e := pick("x")
	for range n {
		e = make(e)
	}
	return e
}

// P9.1 and P9.2: right trees, how they are nested, and their texts.
func TestRight(t *testing.T) {
	a, b, c := pick("a"), pick("b"), pick("c")
	for k, x := range []struct {
		e    api.Expr
		nest int
		text string
	}{
		{num(0), 0, "0"}, {num(1.5), 0, "1.5"}, {num(1e21), 0, "1e+21"}, {num(math.Inf(1)), 0, "Inf"}, {api.Expr{Kind: api.Num, V: api.None}, 0, "NaN"}, {num(5e-324), 0, "5e-324"},
		{api.Expr{Kind: api.Text}, 0, `""`}, {api.Expr{Kind: api.Text, S: "a\"\\\nn\té\x00"}, 0, `"a\"\\\nn` + "\té\x00\""}, {api.Expr{Kind: api.Text, S: strings.Repeat("x", 200)}, 0, `"` + strings.Repeat("x", 200) + `"`},
		{a, 0, "a"}, {pick(""), 0, "{}"}, {pick(":a_9"), 0, ":a_9"}, {pick("rate"), 0, "rate"}, {pick("inf"), 0, "inf"}, {pick(strings.Repeat("x", 200)), 0, strings.Repeat("x", 200)},
		{api.Expr{Kind: api.Pick, Ms: []api.Matcher{{Op: api.Is, Name: "a", Value: "\""}, {Op: api.IsNot, Name: "b", Value: ""}, {Op: api.Like, Name: "c", Value: "\\."}, {Op: api.Unlike, Name: "__name__", Value: "x|\n"}}}, 0, `{a="\"", b!="", c=~"\\.", __name__!~"x|\n"}`},
		{api.Expr{Kind: api.Pick, S: "x", Ms: matchers(1), Wide: 5400000, Off: 1, HasAt: true, At: -5000}, 0, `x{a=~".*"}[1h30m] @ -5 offset 1ms`},
		{api.Expr{Kind: api.Pick, S: "x", Off: -61000, HasAt: true}, 0, `x @ 0 offset -1m1s`},
		{api.Expr{Kind: api.Pick, Wide: api.MaxSpan, Off: -api.MaxSpan, HasAt: true, At: 1125899906842000, Ms: matchers(10)}, 0, `{` + strings.Repeat(`a=~".*", `, 9) + `a=~".*"}[1115y35w6d12h41m28s832ms] @ 1125899906842 offset -1115y35w6d12h41m28s832ms`},
		{api.Expr{Kind: api.Pick, S: "x", Off: api.MaxSpan, HasAt: true, At: -1125899906842000}, 0, `x @ -1125899906842 offset 1115y35w6d12h41m28s832ms`},
		{call("f"), 1, "f()"}, {call("f", a, num(2), call("g", b), c), 2, "f(a, 2, g(b), c)"}, {call("f", pair(api.Plus, a, b)), 1, "f(a + b)"},
		{group("sum", 0, nil, a), 1, "sum(a)"}, {group("topk", 0, nil, num(1), a), 1, "topk(1, a)"}, {group("avg", api.By, nil, a), 1, "avg by () (a)"}, {group("min", api.Without, []string{"a", "sum", "a"}, a), 1, "min without (a, sum, a) (a)"}, {group("count", api.By, many(16)), 1, "count by (" + strings.Repeat("a, ", 15) + "a) ()"}, {group("max", 0, []string{}), 1, "max()"}, {group("bottomk", 0, nil, a, a, a, a), 1, "bottomk(a, a, a, a)"},
		{pair(api.Times, pair(api.Plus, a, b), less(c)), 1, "(a + b) * -c"}, {pair(api.Minus, pair(api.Minus, a, b), c), 0, "a - b - c"}, {pair(api.Minus, a, pair(api.Minus, b, c)), 1, "a - (b - c)"}, {pair(api.Plus, a, pair(api.Over, b, c)), 0, "a + b / c"}, {pair(api.Eq, pair(api.Ne, a, b), pair(api.Plus, b, c)), 0, "a != b == b + c"}, {pair(api.Rest, a, pair(api.Times, b, c)), 1, "a % (b * c)"}, {pair(api.Gt, a, pair(api.Lt, b, c)), 1, "a > (b < c)"}, {pair(api.Plus, pair(api.Ge, a, b), pair(api.Le, b, c)), 1, "(a >= b) + (b <= c)"},
		{with(pair(api.Eq, a, b), func(e *api.Expr) { e.Bool, e.How, e.Names = true, api.By, []string{"x", "y"} }), 0, "a == bool on (x, y) b"}, {with(pair(api.Plus, a, pair(api.Plus, b, c)), func(e *api.Expr) { e.How = api.Without }), 1, "a + ignoring () (b + c)"},
		{less(a), 1, "-a"}, {less(less(num(1))), 2, "--1"}, {less(pair(api.Times, a, b)), 2, "-(a * b)"}, {less(call("f")), 2, "-f()"}, {pair(api.Times, less(pair(api.Plus, a, b)), c), 2, "-(a + b) * c"},
		{chain(64, less), 64, strings.Repeat("-", 64) + "x"}, {chain(32, func(e api.Expr) api.Expr { return less(pair(api.Plus, e, a)) }), 64, strings.Repeat("-(", 32) + "x" + strings.Repeat(" + a)", 32)},
		{with(a, func(e *api.Expr) { e.Ms, e.Names, e.Kids = []api.Matcher{}, []string{}, []api.Expr{} }), 0, "a"},
	} {
		if !tree.Right(x.e) || tree.Nest(x.e) != x.nest {
			t.Errorf("P9.1: %d: %v %d", k, tree.Right(x.e), tree.Nest(x.e))
		}
		if got, err := tree.Print(x.e); got != x.text || err != nil {
			t.Errorf("P9.2: %d: %s %v", k, got, err)
		}
	}
}

// P9.1 and P9.2: trees that aren't right.
func TestWrong(t *testing.T) {
	a := pick("a")
	at := with(a, func(e *api.Expr) { e.HasAt = true })
	for k, e := range []api.Expr{
		{}, {Kind: -1}, {Kind: 8}, {Kind: math.MaxInt}, {Kind: math.MinInt},
		num(-1), num(math.Copysign(0, -1)), num(math.Inf(-1)), {Kind: api.Num, V: api.Stale}, {Kind: api.Num, V: 0x7FF8000000000000}, {Kind: api.Num, V: math.MaxUint64},
		{Kind: api.Text, S: "\xff"}, {Kind: api.Text, S: strings.Repeat("x", 201)},
		pick("1"), pick("a b"), pick(" a"), pick("a "), pick("a#"), pick("é"), pick("sum"), pick("avg"), pick("min"), pick("max"), pick("count"), pick("topk"), pick("bottomk"), pick("by"), pick("without"), pick("on"), pick("ignoring"), pick("bool"), pick("offset"), pick("Inf"), pick("NaN"), pick(strings.Repeat("x", 201)), pick("a+b"), pick("\"a\""), pick(strings.Repeat("x", 4001)),
		with(a, func(e *api.Expr) { e.Ms = matchers(11) }), with(a, func(e *api.Expr) { e.Ms = []api.Matcher{{}} }), with(a, func(e *api.Expr) { e.Ms = []api.Matcher{{Op: api.Like, Name: "a", Value: "("}} }),
		with(a, func(e *api.Expr) { e.Wide = -1 }), with(a, func(e *api.Expr) { e.Wide = api.MaxSpan + 1 }), with(a, func(e *api.Expr) { e.Off = api.MaxSpan + 1 }), with(a, func(e *api.Expr) { e.Off = -api.MaxSpan - 1 }), with(a, func(e *api.Expr) { e.Off = math.MinInt64 }),
		with(a, func(e *api.Expr) { e.At = 1000 }), with(at, func(e *api.Expr) { e.At = 1 }), with(at, func(e *api.Expr) { e.At = -1500 }), with(at, func(e *api.Expr) { e.At = 1125899906843000 }), with(at, func(e *api.Expr) { e.At = -1125899906843000 }), with(at, func(e *api.Expr) { e.At = math.MinInt64 }),
		call("sum", a), call("", a), call("1"), call("f", a, a, a, a, a), group("f", 0, nil, a), group("", 0, nil, a), group("Sum", 0, nil, a), group("sum", 0, []string{"a"}, a), group("sum", 3, nil, a), group("sum", -1, nil, a), group("sum", api.By, many(17), a), group("sum", api.By, []string{"a:b"}, a), group("sum", api.By, []string{""}, a), group("sum", 0, nil, a, a, a, a, a),
		pair(0, a, a), pair(12, a, a), pair(-1, a, a), {Kind: api.Pair, Op: 1}, {Kind: api.Pair, Op: 1, Kids: []api.Expr{a}}, {Kind: api.Pair, Op: 1, Kids: []api.Expr{a, a, a}}, with(pair(1, a, a), func(e *api.Expr) { e.Names = []string{"a"} }), with(pair(1, a, a), func(e *api.Expr) { e.How = 3 }),
		{Kind: api.Less}, {Kind: api.Less, Kids: []api.Expr{a, a}},
		less(pick("sum")), call("f", a, a, a, num(-1)), pair(1, a, less(api.Expr{})), group("sum", 0, nil, call("g", call("h", pick("by")))),
		chain(65, less), chain(65, func(e api.Expr) api.Expr { return call("f", e) }), chain(33, func(e api.Expr) api.Expr { return less(pair(api.Plus, e, a)) }), chain(66, func(e api.Expr) api.Expr { return pair(api.Plus, a, e) }), call("f", chain(64, less)),
	} {
		if tree.Right(e) {
			t.Errorf("P9.1: %d isn't right", k)
		}
		if got, err := tree.Print(e); got != "" || !errors.Is(err, api.BadParse) {
			t.Errorf("P9.2: %d: %s %v", k, got, err)
		}
	}
}

// P9.1: what a kind doesn't have must be zero.
func TestNotItsOwn(t *testing.T) {
	a := pick("a")
	changes := map[string]func(e *api.Expr){
		"Op": func(e *api.Expr) { e.Op = 1 }, "V": func(e *api.Expr) { e.V = 1 }, "S": func(e *api.Expr) { e.S = "f" }, "Ms": func(e *api.Expr) { e.Ms = matchers(1) }, "Wide": func(e *api.Expr) { e.Wide = 1 }, "Off": func(e *api.Expr) { e.Off = 1 },
		"HasAt": func(e *api.Expr) { e.HasAt = true }, "At": func(e *api.Expr) { e.At = 1000 }, "How": func(e *api.Expr) { e.How = 1 }, "Names": func(e *api.Expr) { e.Names = many(1) }, "Bool": func(e *api.Expr) { e.Bool = true }, "Kids": func(e *api.Expr) { e.Kids = []api.Expr{a} },
	}
	for _, c := range []struct {
		e   api.Expr
		has string
	}{
		{num(1), "V"}, {api.Expr{Kind: api.Text, S: "x"}, "S"}, {a, "S Ms Wide Off HasAt"}, {call("f"), "S Kids"}, {group("sum", api.By, nil), "How Names Kids"}, {pair(1, a, a), "Op How Bool"}, {less(a), "Kids"},
	} {
		for name, change := range changes {
			e := with(c.e, change)
			if has := slices.Contains(strings.Fields(c.has), name); tree.Right(e) != has {
				t.Errorf("P9.1: kind %d with another %s: %v", c.e.Kind, name, !has)
			}
		}
	}
}

// byWords reckons as the chapter says it, from the kids up.
func byWords(e api.Expr) int {
	deepest := 0
	for _, kid := range e.Kids {
		deepest = max(deepest, byWords(kid))
	}
	strength := func(e api.Expr) int {
		if e.Kind != api.Pair {
			return 4
		}
		return []int{1, 1, 1, 1, 1, 1, 1, 2, 2, 3, 3, 3}[min(max(e.Op, 0), 11)]
	}
	switch {
	case e.Kind == api.Less && len(e.Kids) == 1:
		if e.Kids[0].Kind == api.Pair {
			return deepest + 2
		}
		return deepest + 1
	case e.Kind == api.Pair && len(e.Kids) == 2:
		a, b := byWords(e.Kids[0]), byWords(e.Kids[1])
		if strength(e.Kids[0]) < strength(e) {
			a++
		}
		if strength(e.Kids[1]) <= strength(e) {
			b++
		}
		return max(a, b)
	case e.Kind >= api.Call && e.Kind <= api.Less:
		return deepest + 1
	}
	return 0
}

func anyTree(r *rand.Rand, deep int) api.Expr {
	e := api.Expr{Kind: r.Intn(10) - 1, Op: r.Intn(14) - 1}
	if r.Intn(2) == 0 {
		e.Kind = api.Pair
	}
	if deep > 0 {
		for range []int{0, 1, 1, 2, 2, 2, 3}[r.Intn(7)] {
			e.Kids = append(e.Kids, anyTree(r, deep-1))
		}
	}
	return e
}

// P9.1: how any tree is nested.
func TestNest(t *testing.T) {
	r := rand.New(rand.NewSource(1))
	for range 20000 {
		e := anyTree(r, r.Intn(6))
		if got, want := tree.Nest(e), byWords(e); got != want {
			t.Fatalf("P9.1: %v: %d, want %d", e, got, want)
		}
	}
	for k, c := range []struct {
		e    api.Expr
		want int
	}{
		{api.Expr{}, 0}, {api.Expr{Kind: 9, Kids: []api.Expr{call("f")}}, 0}, {api.Expr{Kind: api.Num, Kids: []api.Expr{call("f")}}, 0}, {api.Expr{Kind: api.Pair}, 1}, {api.Expr{Kind: api.Less}, 1}, {api.Expr{Kind: api.Pair, Kids: []api.Expr{call("f")}}, 2}, {api.Expr{Kind: api.Less, Kids: []api.Expr{call("f"), num(1)}}, 2}, {pair(-5, pair(99, num(1), num(1)), num(1)), 0}, {pair(99, pair(-5, num(1), num(1)), num(1)), 1},
	} {
		if got := tree.Nest(c.e); got != c.want {
			t.Errorf("P9.1: %d: %d", k, got)
		}
	}
}

// Rule 5: trees that go down very far.
func TestFarDown(t *testing.T) {
	left := chain(200000, func(e api.Expr) api.Expr { return pair(api.Plus, e, num(1)) })
	if text, err := tree.Print(left); !tree.Right(left) || tree.Nest(left) != 0 || len(text) != 1+4*200000 || err != nil {
		t.Error("P9.1: pairs to the left may go down as far as they like")
	}
	deep := chain(200000, less)
	if tree.Right(deep) || tree.Nest(deep) != 200000 {
		t.Error("P9.1: very deep")
	}
}
