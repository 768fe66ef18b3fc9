package matcher_test

import (
	"math/rand"
	"strings"
	"testing"

	"soundings/api"
	"soundings/matcher"
)

func set(s ...string) []api.Label {
	var out []api.Label
	for k := 0; k < len(s); k += 2 {
		out = append(out, api.Label{Name: s[k], Value: s[k+1]})
	}
	return out
}

// P3.1: which matchers are right.
func TestRight(t *testing.T) {
	long := strings.Repeat("x", 200)
	for _, m := range []api.Matcher{
		{Op: api.Is, Name: "a", Value: "1"}, {Op: api.IsNot, Name: "__name__", Value: ""}, {Op: api.Like, Name: "a", Value: ""}, {Op: api.Unlike, Name: "a", Value: "a|b"},
		{Op: api.Is, Name: long, Value: long}, {Op: api.Like, Name: "a", Value: long}, {Op: api.Is, Name: "a", Value: "("}, {Op: api.IsNot, Name: "a", Value: "*"}, {Op: api.Like, Name: "a", Value: "é*"},
	} {
		if !matcher.Right(m) {
			t.Errorf("P3.1: %v is right", m)
		}
	}
	for _, m := range []api.Matcher{
		{}, {Op: 0, Name: "a", Value: "1"}, {Op: 5, Name: "a", Value: "1"}, {Op: -1, Name: "a", Value: "1"},
		{Op: api.Is, Name: "", Value: "1"}, {Op: api.Is, Name: "a:b", Value: "1"}, {Op: api.Is, Name: long + "x", Value: "1"},
		{Op: api.Is, Name: "a", Value: long + "x"}, {Op: api.Is, Name: "a", Value: "\xff"}, {Op: api.Like, Name: "a", Value: "\\\xff"},
		{Op: api.IsNot, Name: "a:b", Value: "1"}, {Op: api.IsNot, Name: "", Value: "x"}, {Op: api.Unlike, Name: "1", Value: "x"}, {Op: api.Like, Name: "é", Value: ""}, {Op: api.IsNot, Name: "b", Value: "\xff"}, {Op: api.Unlike, Name: "b", Value: "\\\xff"},
		{Op: api.Like, Name: "a", Value: "("}, {Op: api.Unlike, Name: "a", Value: "a{1}"}, {Op: api.Unlike, Name: "a", Value: strings.Repeat("(", 33) + strings.Repeat(")", 33)},
	} {
		if matcher.Right(m) || matcher.Holds(m, set("a", "1")) || matcher.Holds(m, nil) {
			t.Errorf("P3.1: %v isn't right", m)
		}
	}
}

// P3.1: what holds of labels.
func TestHolds(t *testing.T) {
	l := set("a", "1", "b", "xy", "a", "2")
	for _, c := range []struct {
		m    api.Matcher
		want bool
	}{
		{api.Matcher{Op: api.Is, Name: "a", Value: "1"}, true}, {api.Matcher{Op: api.Is, Name: "a", Value: "2"}, false}, {api.Matcher{Op: api.Is, Name: "z", Value: ""}, true}, {api.Matcher{Op: api.Is, Name: "a", Value: ""}, false},
		{api.Matcher{Op: api.IsNot, Name: "a", Value: "1"}, false}, {api.Matcher{Op: api.IsNot, Name: "a", Value: "2"}, true}, {api.Matcher{Op: api.IsNot, Name: "z", Value: ""}, false}, {api.Matcher{Op: api.IsNot, Name: "z", Value: "1"}, true},
		{api.Matcher{Op: api.Like, Name: "b", Value: "x"}, false}, {api.Matcher{Op: api.Like, Name: "b", Value: "x."}, true}, {api.Matcher{Op: api.Like, Name: "z", Value: "x?"}, true}, {api.Matcher{Op: api.Like, Name: "z", Value: "x"}, false},
		{api.Matcher{Op: api.Unlike, Name: "b", Value: "x"}, true}, {api.Matcher{Op: api.Unlike, Name: "b", Value: "x.|y"}, false}, {api.Matcher{Op: api.Unlike, Name: "z", Value: ".*"}, false}, {api.Matcher{Op: api.Unlike, Name: "z", Value: ".+"}, true},
	} {
		if got := matcher.Holds(c.m, l); got != c.want {
			t.Errorf("P3.1: %v: %v", c.m, got)
		}
	}
}

// P3.1: a value that is too long for a pattern, of labels that aren't right.
func TestHoldsLong(t *testing.T) {
	long := set("a", strings.Repeat("x", 4001))
	if matcher.Holds(api.Matcher{Op: api.Like, Name: "a", Value: ".*"}, long) || matcher.Holds(api.Matcher{Op: api.Unlike, Name: "a", Value: "y"}, long) {
		t.Error("P3.1: too long for a pattern")
	}
	if matcher.Holds(api.Matcher{Op: api.Is, Name: "a", Value: "x"}, long) || !matcher.Holds(api.Matcher{Op: api.IsNot, Name: "a", Value: "x"}, long) {
		t.Error("P3.1: not too long for Is and IsNot")
	}
	just := set("a", strings.Repeat("x", 4000))
	if !matcher.Holds(api.Matcher{Op: api.Like, Name: "a", Value: "x*"}, just) || matcher.Holds(api.Matcher{Op: api.Unlike, Name: "a", Value: "x*"}, just) {
		t.Error("P3.1: just short enough")
	}
}

// P3.2: all of some.
func TestAll(t *testing.T) {
	yes, no, wrong := api.Matcher{Op: api.Is, Name: "a", Value: "1"}, api.Matcher{Op: api.IsNot, Name: "a", Value: "1"}, api.Matcher{Op: 9, Name: "a", Value: "1"}
	l := set("a", "1")
	for k, c := range []struct {
		ms   []api.Matcher
		want bool
	}{{nil, true}, {[]api.Matcher{}, true}, {[]api.Matcher{yes}, true}, {[]api.Matcher{yes, yes}, true}, {[]api.Matcher{yes, no}, false}, {[]api.Matcher{no, yes}, false}, {[]api.Matcher{wrong, yes}, false}, {[]api.Matcher{yes, wrong}, false}} {
		if got := matcher.All(c.ms, l); got != c.want {
			t.Errorf("P3.2: %d: %v", k, got)
		}
	}
	if !matcher.All(nil, nil) {
		t.Error("P3.2: of none")
	}
}

// P3.3: just one of two that differ in their way alone.
func TestJustOne(t *testing.T) {
	r := rand.New(rand.NewSource(1))
	values := []string{"", "a", "b", "ab", "a*", "a|b", ".", ".+", "[ab]?"}
	for range 3000 {
		l := set("n", values[r.Intn(len(values))], "m", "a")
		name, value := []string{"n", "m", "z"}[r.Intn(3)], values[r.Intn(len(values))]
		for _, op := range [][2]int{{api.Is, api.IsNot}, {api.Like, api.Unlike}} {
			a, b := api.Matcher{Op: op[0], Name: name, Value: value}, api.Matcher{Op: op[1], Name: name, Value: value}
			if matcher.Right(a) && matcher.Right(b) && matcher.Holds(a, l) == matcher.Holds(b, l) {
				t.Fatalf("P3.3: %v of %v", a, l)
			}
		}
	}
}
