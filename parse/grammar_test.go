package parse_test

import (
	"errors"
	"math/rand"
	"slices"
	"strings"
	"testing"

	"soundings/api"
	"soundings/label"
	"soundings/lex"
	"soundings/parse"
	"soundings/regex"
	"soundings/span"
	"soundings/tree"
)

// grammar tries all that the chapter's lines allow, whatever comes next: the furthest token that was tried is the first one that can't be, if none of it went to the end.
type grammar struct {
	tokens []api.Token
	far    int
	code   api.Code
	right  bool
}

type then func(at int)

func (g *grammar) try(at int, so func(t api.Token) bool, next then) {
	g.tryCode(at, func(t api.Token) (bool, api.Code) { return so(t), api.BadParse }, next)
}

func (g *grammar) tryCode(at int, so func(t api.Token) (bool, api.Code), next then) {
	if at > g.far {
		g.far, g.code = at, api.BadParse
	}
	if at == len(g.tokens) {
		return
	}
	ok, code := so(g.tokens[at])
	if ok {
		next(at + 1)
	} else if at == g.far && code != api.BadParse {
		g.code = code
	}
}

func (g *grammar) sign(at int, s string, next then) {
	g.try(at, func(t api.Token) bool { return t.Kind == api.Sign && t.Text == s }, next)
}

func (g *grammar) word(at int, s string, next then) {
	g.try(at, func(t api.Token) bool { return t.Kind == api.Word && t.Text == s }, next)
}

func (g *grammar) query() {
	g.line(0, 0, func(at int) {
		if at > g.far {
			g.far, g.code = at, api.BadParse
		}
		g.right = g.right || at == len(g.tokens)
	})
}

// line: Test, Sum and Product, which differ in their signs alone.
func (g *grammar) line(at, which int, next then) {
	signs := [][]string{{"==", "!=", ">", "<", ">=", "<="}, {"+", "-"}, {"*", "/", "%"}}
	lower := func(at int, next then) {
		if which == 2 {
			g.one(at, next)
		} else {
			g.line(at, which+1, next)
		}
	}
	var more then
	more = func(at int) {
		next(at)
		for _, s := range signs[which] {
			g.sign(at, s, func(at int) { g.how(at, func(at int) { lower(at, more) }) })
		}
	}
	lower(at, more)
}

func (g *grammar) how(at int, next then) {
	words := func(at int) {
		next(at)
		for _, w := range []string{"on", "ignoring"} {
			g.word(at, w, func(at int) { g.names(at, next) })
		}
	}
	words(at)
	g.word(at, "bool", words)
}

func (g *grammar) list(at int, closing string, most int, thing func(at int, next then), next then) {
	g.sign(at, closing, next)
	var more func(n int) then
	more = func(n int) then {
		return func(at int) {
			g.sign(at, closing, next)
			if n < most {
				g.sign(at, ",", func(at int) { thing(at, more(n+1)) })
			}
		}
	}
	thing(at, more(1))
}

func (g *grammar) name(at int, next then) {
	g.try(at, func(t api.Token) bool { return t.Kind == api.Word && label.IsName(t.Text) }, next)
}

func (g *grammar) names(at int, next then) {
	g.sign(at, "(", func(at int) { g.list(at, ")", 16, g.name, next) })
}

func (g *grammar) args(at int, next then) {
	g.sign(at, "(", func(at int) {
		g.list(at, ")", 4, func(at int, next then) { g.line(at, 0, next) }, next)
	})
}

var groupNames = []string{"sum", "avg", "min", "max", "count", "topk", "bottomk"}
var kept = []string{"by", "without", "on", "ignoring", "bool", "offset", "Inf", "NaN"}

func isFree(t api.Token) bool {
	return t.Kind == api.Word && len(t.Text) <= 200 && !slices.Contains(groupNames, t.Text) && !slices.Contains(kept, t.Text)
}

func isValue(t api.Token) bool { return t.Kind == api.Quoted && len(t.Text) <= 200 }

func (g *grammar) one(at int, next then) {
	g.sign(at, "-", func(at int) { g.one(at, next) })
	g.try(at, func(t api.Token) bool { return t.Kind == api.Number }, next)
	g.word(at, "Inf", next)
	g.word(at, "NaN", next)
	g.try(at, isValue, next)
	g.sign(at, "(", func(at int) { g.line(at, 0, func(at int) { g.sign(at, ")", next) }) })
	g.group(at, next)
	g.try(at, isFree, func(at int) { g.args(at, next) })
	g.pick(at, next)
}

func (g *grammar) group(at int, next then) {
	by := func(at int, next then) {
		g.word(at, "by", func(at int) { g.names(at, next) })
		g.word(at, "without", func(at int) { g.names(at, next) })
	}
	g.try(at, func(t api.Token) bool { return t.Kind == api.Word && slices.Contains(groupNames, t.Text) }, func(at int) {
		g.args(at, next)
		by(at, func(at int) { g.args(at, next) })
		g.args(at, func(at int) { by(at, next) })
	})
}

func (g *grammar) pick(at int, next then) {
	braces := func(at int, next then) {
		g.sign(at, "{", func(at int) { g.list(at, "}", 10, g.matcher, next) })
	}
	wide := func(at int) {
		g.behind(at, true, true, next)
		g.sign(at, "[", func(at int) {
			g.tryCode(at, func(t api.Token) (bool, api.Code) {
				if v, err := span.Parse(t.Text); t.Kind == api.Span && err == nil && v == 0 {
					return false, api.BadNumber
				}
				return t.Kind == api.Span, api.BadParse
			}, func(at int) { g.sign(at, "]", func(at int) { g.behind(at, true, true, next) }) })
		})
	}
	g.try(at, isFree, func(at int) {
		wide(at)
		braces(at, wide)
	})
	braces(at, wide)
}

// behind: @ and offset, each once or not.
func (g *grammar) behind(at int, when, off bool, next then) {
	next(at)
	maybe := func(at int, so func(at int)) {
		so(at)
		g.sign(at, "-", so)
	}
	if when {
		g.sign(at, "@", func(at int) {
			maybe(at, func(at int) {
				g.tryCode(at, func(t api.Token) (bool, api.Code) {
					if t.Kind != api.Number {
						return false, api.BadParse
					}
					digits := strings.Trim(t.Text, "0123456789") == ""
					n := strings.TrimLeft(t.Text, "0")
					return digits && (len(n) < 13 || len(n) == 13 && n <= "1125899906842"), api.BadNumber
				}, func(at int) { g.behind(at, false, off, next) })
			})
		})
	}
	if off {
		g.word(at, "offset", func(at int) {
			maybe(at, func(at int) {
				g.try(at, func(t api.Token) bool { return t.Kind == api.Span }, func(at int) { g.behind(at, when, false, next) })
			})
		})
	}
}

func (g *grammar) matcher(at int, next then) {
	g.name(at, func(at int) {
		for _, s := range []string{"=", "!="} {
			g.sign(at, s, func(at int) { g.try(at, isValue, next) })
		}
		for _, s := range []string{"=~", "!~"} {
			g.sign(at, s, func(at int) {
				g.tryCode(at, func(t api.Token) (bool, api.Code) {
					if isValue(t) && regex.Check(t.Text) != nil {
						return false, api.BadPattern
					}
					return isValue(t), api.BadParse
				}, next)
			})
		}
	})
}

// tokensOf: the tokens of queries of any kind, some of them changed.
func tokensOf(r *rand.Rand) []string {
	var out []string
	for len(out) == 0 || len(out) > 25 {
		s, err := tree.Print(someTree(r, r.Intn(4)))
		if err != nil {
			panic(err)
		}
		out = cut(s)
	}
	any := []string{"a", "sum", "by", "without", "on", "ignoring", "bool", "offset", "Inf", "1", "1.5", "5m", "0s", `"a"`, `"("`, "==", "=", "=~", "!~", "!=", "-", "+", "*", "@", "(", ")", "{", "}", "[", "]", ",", "a:b"}
	for range r.Intn(4) {
		k := r.Intn(len(out) + 1)
		switch r.Intn(3) {
		case 0:
			out = slices.Insert(out, k, any[r.Intn(len(any))])
		case 1:
			if k < len(out) {
				out = slices.Delete(out, k, k+1)
			}
		case 2:
			if k < len(out) {
				out[k] = any[r.Intn(len(any))]
			}
		}
	}
	return out
}

func cut(s string) []string {
	tokens, err := lex.Lex(s)
	if err != nil {
		panic(err)
	}
	var out []string
	for k, x := range tokens {
		end := len(s)
		if k+1 < len(tokens) {
			end = tokens[k+1].At
		}
		out = append(out, strings.TrimSpace(s[x.At:end]))
	}
	return out
}

// P10.1 and P2: a text is a query just if the grammar makes it, and else the fault is at the first token that can't be.
func TestParseByGrammar(t *testing.T) {
	r := rand.New(rand.NewSource(3))
	right := 0
	for range 30000 {
		s := strings.Join(tokensOf(r), " ")
		tokens, err := lex.Lex(s)
		if err != nil {
			t.Fatal(s, err)
		}
		g := &grammar{tokens: tokens, code: api.BadParse}
		g.query()
		got, err := parse.Parse(s)
		if g.right {
			right++
			if err != nil || !tree.Right(got) {
				t.Fatalf("P10.1: %s: %v", s, err)
			}
			if again, err := tree.Print(got); err != nil || again == "" {
				t.Fatalf("P10.2: %s: %v", s, err)
			}
			continue
		}
		at := len(s)
		if g.far < len(tokens) {
			at = tokens[g.far].At
		}
		var f *api.Fault
		if !errors.As(err, &f) || f.At != at || !errors.Is(err, g.code) {
			t.Fatalf("P10.1: %s: %v, want %d of %v", s, err, at, g.code)
		}
	}
	if right < 5000 || right > 25000 {
		t.Errorf("%d were right", right)
	}
}
