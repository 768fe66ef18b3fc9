package regex_test

import (
	"errors"
	"math/rand"
	"strings"
	"testing"

	"soundings/api"
	"soundings/regex"
)

// at: the place of a fault, and whether it is of that code.
func at(err error, c api.Code) (int, bool) {
	var f *api.Fault
	if !errors.As(err, &f) {
		return -1, false
	}
	return f.At, errors.Is(err, c)
}

// P2.1: patterns, and where others go wrong.
func TestCheck(t *testing.T) {
	for _, p := range []string{"", "a", "a|", "|", "||", "()", "(|)", "a**+?", "(a)*", ".", "\\.", "\\\xff", "\\(", "\xff\x00", "[a]", "[^a]", "[a-z]", "[a-a]", "[\\]-\\^]", "[(){}$|*+?.]", "[a-zA-Z_]", "[\\--\\-]", ",-", "a-b", "[\\^]", strings.Repeat("a", 200), strings.Repeat("(", 32) + strings.Repeat(")", 32), strings.Repeat("(a)", 66), "\\" + strings.Repeat("(", 32) + strings.Repeat(")", 31), "[" + strings.Repeat("(", 50) + "]"} {
		if err := regex.Check(p); err != nil {
			t.Errorf("P2.1: %q: %v", p, err)
		}
	}
	for _, c := range []struct {
		p    string
		at   int
		code api.Code
	}{
		{"*", 0, api.BadPattern}, {"+", 0, api.BadPattern}, {"?", 0, api.BadPattern}, {"a|*", 2, api.BadPattern}, {"(*", 1, api.BadPattern},
		{")", 0, api.BadPattern}, {"a)", 1, api.BadPattern}, {"(a))", 3, api.BadPattern}, {"(", 1, api.BadPattern}, {"(a|", 3, api.BadPattern},
		{"a{", 1, api.BadPattern}, {"}", 0, api.BadPattern}, {"]", 0, api.BadPattern}, {"^a", 0, api.BadPattern}, {"a$", 1, api.BadPattern},
		{"\\", 1, api.BadPattern}, {"a\\", 2, api.BadPattern},
		{"[", 1, api.BadPattern}, {"[]", 1, api.BadPattern}, {"[^", 2, api.BadPattern}, {"[^]", 2, api.BadPattern}, {"[^^]", 2, api.BadPattern}, {"[a^]", 2, api.BadPattern}, {"[a[", 2, api.BadPattern},
		{"[-", 1, api.BadPattern}, {"[a-", 3, api.BadPattern}, {"[a-]", 3, api.BadPattern}, {"[b-a]", 3, api.BadPattern}, {"[b-\\a]", 4, api.BadPattern}, {"[b-\\", 4, api.BadPattern}, {"[a-b-c]", 4, api.BadPattern}, {"[\\", 2, api.BadPattern}, {"[a", 2, api.BadPattern}, {"[a\\]", 4, api.BadPattern},
		{strings.Repeat("a", 201), 0, api.BadPattern}, {strings.Repeat("(", 201), 0, api.BadPattern}, {strings.Repeat("a", 150) + ")" + strings.Repeat("a", 50), 0, api.BadPattern},
		{strings.Repeat("(", 33), 32, api.Deep}, {strings.Repeat("(", 32), 32, api.BadPattern}, {strings.Repeat("a(", 33) + ")", 65, api.Deep}, {strings.Repeat("(", 200), 32, api.Deep}, {strings.Repeat("(", 32) + ")*((", 35, api.Deep}, {"*" + strings.Repeat("(", 33), 0, api.BadPattern}, {strings.Repeat("(", 32) + "*(", 32, api.BadPattern},
	} {
		if n, ok := at(regex.Check(c.p), c.code); n != c.at || !ok {
			t.Errorf("P2.1: %q: %v, want %d of %v", c.p, regex.Check(c.p), c.at, c.code)
		}
		if got, err := regex.Match(c.p, ""); got || err == nil || err.Error() != regex.Check(c.p).Error() {
			t.Errorf("P2.2: %q: %v %v", c.p, got, err)
		}
	}
}

// grammar goes by the chapter's words alone: of each of its lines, all places where what begins at a place may end.
type grammar string

func (g grammar) alt(i int) map[int]bool {
	out := g.cat(i)
	for again := true; again; {
		again = false
		for j := range out {
			if j < len(g) && g[j] == '|' {
				again = add(out, g.cat(j+1)) || again
			}
		}
	}
	return out
}

func add(to, from map[int]bool) bool {
	n := len(to)
	for k := range from {
		to[k] = true
	}
	return len(to) > n
}

func (g grammar) many(i int, one func(int) map[int]bool) map[int]bool {
	out := map[int]bool{i: true}
	for again := true; again; {
		again = false
		for j := range out {
			again = add(out, one(j)) || again
		}
	}
	return out
}

func (g grammar) cat(i int) map[int]bool { return g.many(i, g.rep) }

func (g grammar) rep(i int) map[int]bool {
	out := map[int]bool{}
	for j := range g.atom(i) {
		add(out, g.many(j, func(k int) map[int]bool { return g.any(k, "*+?") }))
	}
	return out
}

func (g grammar) any(i int, of string) map[int]bool {
	if i < len(g) && strings.Contains(of, string(g[i])) {
		return map[int]bool{i + 1: true}
	}
	return nil
}

func (g grammar) but(i int, of string) map[int]bool {
	if i < len(g) && !strings.Contains(of, string(g[i])) {
		return map[int]bool{i + 1: true}
	}
	return nil
}

func (g grammar) atom(i int) map[int]bool {
	out := map[int]bool{}
	add(out, g.but(i, "()[]{}^$|*+?.\\"))
	add(out, g.any(i, "."))
	add(out, g.escaped(i))
	for j := range g.any(i, "(") {
		for k := range g.alt(j) {
			add(out, g.any(k, ")"))
		}
	}
	for j := range g.any(i, "[") {
		begins := map[int]bool{j: true}
		add(begins, g.any(j, "^"))
		for k := range begins {
			for l := range g.item(k) {
				for m := range g.many(l, g.item) {
					add(out, g.any(m, "]"))
				}
			}
		}
	}
	return out
}

func (g grammar) escaped(i int) map[int]bool {
	if i+1 < len(g) && g[i] == '\\' {
		return map[int]bool{i + 2: true}
	}
	return nil
}

func (g grammar) char(i int) map[int]bool {
	out := map[int]bool{}
	add(out, g.escaped(i))
	add(out, g.but(i, "]\\[^-"))
	return out
}

func (g grammar) item(i int) map[int]bool {
	out := g.char(i)
	for j := range g.char(i) {
		for k := range g.any(j, "-") {
			for l := range g.char(k) {
				if g[j-1] <= g[l-1] {
					out[l] = true
				}
			}
		}
	}
	return out
}

// begins: is it the beginning of a pattern? What it lacks is at most a byte, the end of a list of them, and some closing ones.
func (g grammar) begins() bool {
	for _, more := range []string{"", "\xff", "\xff]", "]"} {
		for closing := range 7 {
			whole := g + grammar(more+strings.Repeat(")", closing))
			if whole.alt(0)[len(whole)] {
				return true
			}
		}
	}
	return false
}

// P2.1: each short text, held against the grammar itself.
func TestCheckByGrammar(t *testing.T) {
	r := rand.New(rand.NewSource(2))
	signs := "ab()[]^-|*\\.{"
	for range 6000 {
		b := make([]byte, 1+r.Intn(6))
		for k := range b {
			b[k] = signs[r.Intn(len(signs))]
		}
		p := string(b)
		want := -1
		if !grammar(p).alt(0)[len(p)] {
			want = len(p)
			for k := range len(p) {
				if !grammar(p[:k+1]).begins() {
					want = k
					break
				}
			}
		}
		err := regex.Check(p)
		if n, ok := at(err, api.BadPattern); n != want || ok != (want >= 0) || (err == nil) != (want < 0) {
			t.Fatalf("P2.1: %q: %v, want %d", p, err, want)
		}
	}
}

// P2.2: what patterns match.
func TestMatch(t *testing.T) {
	for _, c := range []struct {
		p        string
		yes, not []string
	}{
		{"", []string{""}, []string{"a"}},
		{"a(b|c)*", []string{"a", "abcb", "acc"}, []string{"", "b", "abd", "xa"}},
		{"a|", []string{"a", ""}, []string{"aa", "|"}},
		{"()", []string{""}, []string{"()"}},
		{"()*+?a", []string{"a"}, []string{"", "aa"}},
		{".", []string{"a", "\n", "\x00", "\xff"}, []string{"", "ab", "é"}},
		{"..", []string{"é"}, []string{"e"}},
		{"\\.\\n", []string{".n"}, []string{"an", ".\n"}},
		{"[a-cx]+", []string{"a", "abcx"}, []string{"", "d", "w", "y", "-"}},
		{"[^a-c]", []string{"d", "\n", "\xff", "^"}, []string{"a", "b", "c", "", "dd"}},
		{"[^\x00-\xff]", nil, []string{"a", "", "\xff"}},
		{"[\\--\\]]", []string{"-", ".", "]", "A"}, []string{",", "^"}},
		{"[.*(]", []string{".", "*", "("}, []string{"a"}},
		{"a+*", []string{"", "aaa"}, []string{"b"}},
		{"a?+", []string{"", "aaa"}, []string{"b"}},
		{"ab*", []string{"a", "abb"}, []string{"abab"}},
		{"(ab)*", []string{"", "abab"}, []string{"abb"}},
		{"a|bc", []string{"a", "bc"}, []string{"ac", "b"}},
		{"((a*)*)*b", []string{"b", strings.Repeat("a", 3999) + "b"}, []string{strings.Repeat("a", 4000)}},
		{"(a|b)*a(a|b)(a|b)(a|b)(a|b)(a|b)(a|b)(a|b)(a|b)(a|b)", []string{strings.Repeat("a", 4000)}, []string{strings.Repeat("b", 4000)}},
		{strings.Repeat("a?", 66) + strings.Repeat("a", 66), []string{strings.Repeat("a", 66), strings.Repeat("a", 132)}, []string{strings.Repeat("a", 65), strings.Repeat("a", 133)}},
	} {
		for _, s := range c.yes {
			if got, err := regex.Match(c.p, s); !got || err != nil {
				t.Errorf("P2.2: %q matches %.20q: %v %v", c.p, s, got, err)
			}
		}
		for _, s := range c.not {
			if got, err := regex.Match(c.p, s); got || err != nil {
				t.Errorf("P2.2: %q doesn't match %.20q: %v %v", c.p, s, got, err)
			}
		}
	}
}

// P2.2: each byte, by itself and in lists of bytes, and as many parts as a pattern may have.
func TestMatchBytes(t *testing.T) {
	for c := range 256 {
		one := string([]byte{byte(c)})
		for d := range 256 {
			s := string([]byte{byte(d)})
			if matches(t, "\\"+one, s) != (c == d) || matches(t, "[^\\"+one+"]", s) == (c == d) || matches(t, "[\\"+one+"-\xff]", s) != (d >= c) {
				t.Fatalf("P2.2: byte %d of %d", d, c)
			}
		}
	}
	long := strings.Repeat("abcdefghij", 20)
	for k := range 200 {
		other := long[:k] + "z" + long[k+1:]
		if !matches(t, other, other) || matches(t, other, long) || matches(t, long, other) || !matches(t, long[:k]+"."+long[k+1:], long) {
			t.Fatalf("P2.2: a text of 200 bytes, unlike at %d", k)
		}
	}
}

// P2.2: texts that are too long, behind Check's errors.
func TestMatchTooLong(t *testing.T) {
	if got, err := regex.Match("a*", strings.Repeat("a", 4000)); !got || err != nil {
		t.Errorf("P2.2: %v %v", got, err)
	}
	if got, err := regex.Match("a*", strings.Repeat("a", 4001)); got || !errors.Is(err, api.Limit) {
		t.Errorf("P2.2: %v %v", got, err)
	}
	if got, err := regex.Match("*", strings.Repeat("a", 4001)); got || !errors.Is(err, api.BadPattern) {
		t.Errorf("P2.2: %v %v", got, err)
	}
}

// ends: where a match of something that begins at a place of a text may end.
type ends func(s string, i int) map[int]bool

func closure(one ends, s string, i int, none bool) map[int]bool {
	out := map[int]bool{}
	if none {
		out[i] = true
	} else {
		add(out, one(s, i))
	}
	for again := true; again; {
		again = false
		for j := range out {
			again = add(out, one(s, j)) || again
		}
	}
	return out
}

// some makes a pattern, and by its side what it matches.
func some(r *rand.Rand, deep int) (string, ends) {
	switch n := r.Intn(8); {
	case deep == 0 || n == 0:
		c := "ab"[r.Intn(2)]
		return string(c), func(s string, i int) map[int]bool {
			if i < len(s) && s[i] == c {
				return map[int]bool{i + 1: true}
			}
			return nil
		}
	case n == 1:
		return "[^a]", func(s string, i int) map[int]bool {
			if i < len(s) && s[i] != 'a' {
				return map[int]bool{i + 1: true}
			}
			return nil
		}
	case n <= 3:
		p, x := some(r, deep-1)
		q, y := some(r, deep-1)
		return "(" + p + "|" + q + ")", func(s string, i int) map[int]bool {
			out := map[int]bool{}
			add(out, x(s, i))
			add(out, y(s, i))
			return out
		}
	case n <= 5:
		p, x := some(r, deep-1)
		q, y := some(r, deep-1)
		return p + q, func(s string, i int) map[int]bool {
			out := map[int]bool{}
			for j := range x(s, i) {
				add(out, y(s, j))
			}
			return out
		}
	default:
		p, x := some(r, deep-1)
		sign := "*+?"[r.Intn(3)]
		return "(" + p + ")" + string(sign), func(s string, i int) map[int]bool {
			if sign == '?' {
				out := map[int]bool{i: true}
				add(out, x(s, i))
				return out
			}
			return closure(x, s, i, sign == '*')
		}
	}
}

func texts() []string {
	out := []string{""}
	for k := 0; len(out) < 200; k++ {
		out = append(out, out[k]+"a", out[k]+"b", out[k]+"c")
	}
	return out
}

func matches(t *testing.T, p, s string) bool {
	got, err := regex.Match(p, s)
	if err != nil {
		t.Fatalf("%q: %v", p, err)
	}
	return got
}

// P2.2: patterns, held against what they are made of.
func TestMatchByMaking(t *testing.T) {
	r := rand.New(rand.NewSource(3))
	all := texts()
	for range 500 {
		p, x := some(r, 4)
		if len(p) > api.MaxText {
			continue
		}
		for _, s := range all {
			if got, want := matches(t, p, s), x(s, 0)[len(s)]; got != want {
				t.Fatalf("P2.2: %q, %q: %v", p, s, got)
			}
		}
	}
}

// P2.3: parentheses, one or the other, and one behind the other.
func TestMatchFollows(t *testing.T) {
	r := rand.New(rand.NewSource(4))
	all := texts()
	for range 200 {
		p, _ := some(r, 3)
		q, _ := some(r, 3)
		for range 20 {
			s := all[r.Intn(len(all))]
			if matches(t, "("+p+")", s) != matches(t, p, s) {
				t.Fatalf("P2.3: (%s): %q", p, s)
			}
			if matches(t, p+"|"+q, s) != (matches(t, p, s) || matches(t, q, s)) {
				t.Fatalf("P2.3: %s|%s: %q", p, q, s)
			}
			cut := false
			for k := range len(s) + 1 {
				cut = cut || matches(t, p, s[:k]) && matches(t, p, s[k:])
			}
			if matches(t, p+p, s) != cut {
				t.Fatalf("P2.3: twice %s: %q", p, s)
			}
		}
	}
}

// Rule 5: any bytes at all are answered.
func TestAnyBytes(t *testing.T) {
	r := rand.New(rand.NewSource(5))
	for range 3000 {
		b := make([]byte, r.Intn(220))
		for k := range b {
			b[k] = byte(r.Intn(256))
			if r.Intn(2) == 0 {
				b[k] = "()[]|*+?.\\-^"[r.Intn(12)]
			}
		}
		p := string(b)
		got, err := regex.Match(p, p)
		if check := regex.Check(p); (check == nil) != (err == nil) || err != nil && got {
			t.Fatalf("P2.2: %q: %v %v, but %v", p, got, err, check)
		}
	}
}
