package check_test

import (
	"errors"
	"testing"

	"soundings/api"
	"soundings/check"
	"soundings/parse"
)

func typeOf(t *testing.T, s string) (int, error) {
	e, err := parse.Parse(s)
	if err != nil {
		t.Fatalf("%s: %v", s, err)
	}
	return check.Type(e)
}

// P11.1: types of queries.
func TestType(t *testing.T) {
	for want, queries := range map[int][]string{
		api.Scalar: {"1", "NaN", "Inf", "time()", "-1", "--time()", "1 + 2", "1 - 2 * 3 / 4 % 5", "1 == bool 2", "time() > bool 1 != bool 0", "-(1 <= bool 2)"},
		api.Vector: {"a", "{}", "a @ 5 offset 5m", "rate(a[5m])", "increase(a[5m] @ 5)", "delta(a[5m] offset 5m)", "abs(a)", "abs(abs(a))", "vector(1)", "vector(time())", "-a", "sum(a)", "avg(a)", "min(a)", "max(a)", "count(a)", "sum by (a) (a)", "sum without () (rate(a[5m]))", "topk(1, a)", "bottomk(time() + 1, -a)", "topk by (a) (1, a)",
			"a + b", "a + 1", "1 + a", "a == b", "a == 1", "1 < a", "a == bool b", "a >= bool 1", "1 != bool a", "a + on (x) b", "a == ignoring (x) b", "a == bool on () b", "a - b - 1 - 2", "abs(vector(1)) % a", "(1 + 2) * a", "1 + 2 == a", "rate"},
		api.Matrix: {"a[5m]", "{}[5m] @ 5 offset 5m", "(a[5m])"},
		api.String: {`"a"`, `("")`},
	} {
		for _, s := range queries {
			if got, err := typeOf(t, s); got != want || err != nil {
				t.Errorf("P11.1: %s: %d %v", s, got, err)
			}
		}
	}
}

// P11.1: queries that don't fit together.
func TestBadType(t *testing.T) {
	for _, s := range []string{
		"rate(a)", "rate(1)", `rate("a")`, "rate()", "rate(a[5m], 1)", "rate(a[5m], a[5m])", "increase(a)", "delta(time())", "rate(rate(a[5m]))", "abs(1)", "abs(a[5m])", "abs()", "abs(a, a)", `abs("a")`, "time(1)", "time(a)", "vector(a)", "vector()", "vector(1, 2)", `vector("a")`, "f()", "f(a)", "Rate(a[5m])", "sumx(a)", "scalar(a)",
		"sum()", "sum(1)", "sum(a[5m])", "sum(a, a)", `sum("a")`, "avg(1)", "min(1)", "max(1)", "count(1)", "topk(a)", "topk(1)", "topk(a, 1)", "topk(a, a)", "topk(1, 1)", "topk(1, a[5m])", "topk(1, a, a)", "bottomk()", `bottomk("1", a)`, "sum by (a) (1)",
		"-a[5m]", `-"a"`, `"a" + "b"`, `"a" + 1`, `a + "b"`, "a[5m] + 1", "1 + a[5m]", "a + a[5m]", `"a" == bool "a"`,
		"1 == 2", "1 != 2", "1 > 2", "1 < 2", "1 >= 2", "1 <= 2", "time() == 1", "1 + bool 2", "a + bool b", "a - bool 1", "1 * bool a", "a / bool b", "a % bool on () b",
		"1 + on () 2", "a + on (x) 1", "1 + ignoring () a", "a == on (x) 1", "1 == bool on () 2",
		"-rate(a)", "abs(-(1 == 2))", "sum(sum(1))", "vector(1 == 2)", "a + (1 == 2)", "(1 == 2) + a", "topk(1, f())", "rate(a) + a + a", "a + f() + a", "time(f())",
	} {
		if got, err := typeOf(t, s); got != 0 || !errors.Is(err, api.BadType) {
			t.Errorf("P11.1: %s: %d %v", s, got, err)
		}
	}
}

// P11.1: trees that aren't right, ahead of what doesn't fit.
func TestBadParse(t *testing.T) {
	one := api.Expr{Kind: api.Num}
	bad := api.Expr{Kind: api.Call, S: "f"}
	for k, e := range []api.Expr{
		{}, {Kind: 9}, {Kind: api.Call, S: "sum"}, {Kind: api.Group, S: "rate"}, {Kind: api.Less}, {Kind: api.Pair, Op: 12, Kids: []api.Expr{one, one}}, {Kind: api.Pair, Op: 1, Kids: []api.Expr{one}}, {Kind: api.Num, V: api.Stale},
		{Kind: api.Pair, Op: api.Plus, Kids: []api.Expr{bad, {}}}, {Kind: api.Call, S: "f", Kids: []api.Expr{{Kind: api.Pick, S: "by"}}},
	} {
		if got, err := check.Type(e); got != 0 || !errors.Is(err, api.BadParse) {
			t.Errorf("P11.1: %d: %d %v", k, got, err)
		}
	}
}

// Rule 5: pairs that go down very far.
func TestFarDown(t *testing.T) {
	e := api.Expr{Kind: api.Pick, S: "a"}
	for range 200000 {
		e = api.Expr{Kind: api.Pair, Op: api.Plus, Kids: []api.Expr{e, {Kind: api.Num}}}
	}
	if got, err := check.Type(e); got != api.Vector || err != nil {
		t.Errorf("P11.1: %d %v", got, err)
	}
}
