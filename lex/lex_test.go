package lex_test

import (
	"errors"
	"math/rand"
	"reflect"
	"regexp"
	"strings"
	"testing"
	"unicode/utf8"

	"soundings/api"
	"soundings/lex"
	"soundings/span"
	"soundings/value"
)

func token(kind, at int, text string) api.Token { return api.Token{Kind: kind, At: at, Text: text} }

// P8.1: the tokens of queries.
func TestLex(t *testing.T) {
	for _, c := range []struct {
		s    string
		want []api.Token
	}{
		{"", nil}, {" \t\r\n", nil}, {"# all of it", nil}, {"#", nil},
		{"rate(x[5m])", []api.Token{token(api.Word, 0, "rate"), token(api.Sign, 4, "("), token(api.Word, 5, "x"), token(api.Sign, 6, "["), token(api.Span, 7, "5m"), token(api.Sign, 9, "]"), token(api.Sign, 10, ")")}},
		{"a#b\nc", []api.Token{token(api.Word, 0, "a"), token(api.Word, 4, "c")}},
		{"a # b # c\n# d", []api.Token{token(api.Word, 0, "a")}},
		{"_:aZ9 :", []api.Token{token(api.Word, 0, "_:aZ9"), token(api.Word, 6, ":")}},
		{"===~!=!~>==<=<>", []api.Token{token(api.Sign, 0, "=="), token(api.Sign, 2, "=~"), token(api.Sign, 4, "!="), token(api.Sign, 6, "!~"), token(api.Sign, 8, ">="), token(api.Sign, 10, "="), token(api.Sign, 11, "<="), token(api.Sign, 13, "<"), token(api.Sign, 14, ">")}},
		{"+-*/%@(){}[],", []api.Token{token(api.Sign, 0, "+"), token(api.Sign, 1, "-"), token(api.Sign, 2, "*"), token(api.Sign, 3, "/"), token(api.Sign, 4, "%"), token(api.Sign, 5, "@"), token(api.Sign, 6, "("), token(api.Sign, 7, ")"), token(api.Sign, 8, "{"), token(api.Sign, 9, "}"), token(api.Sign, 10, "["), token(api.Sign, 11, "]"), token(api.Sign, 12, ",")}},
		{"1 .5 1. 1e3 1E+3 1.5e-3-2", []api.Token{token(api.Number, 0, "1"), token(api.Number, 2, ".5"), token(api.Number, 5, "1."), token(api.Number, 8, "1e3"), token(api.Number, 12, "1E+3"), token(api.Number, 17, "1.5e-3"), token(api.Sign, 23, "-"), token(api.Number, 24, "2")}},
		{"1-1", []api.Token{token(api.Number, 0, "1"), token(api.Sign, 1, "-"), token(api.Number, 2, "1")}},
		{"1e5+2", []api.Token{token(api.Number, 0, "1e5"), token(api.Sign, 3, "+"), token(api.Number, 4, "2")}},
		{"e+1", []api.Token{token(api.Word, 0, "e"), token(api.Sign, 1, "+"), token(api.Number, 2, "1")}},
		{"1h30m 0s 0ms", []api.Token{token(api.Span, 0, "1h30m"), token(api.Span, 6, "0s"), token(api.Span, 9, "0ms")}},
		{"-5m", []api.Token{token(api.Sign, 0, "-"), token(api.Span, 1, "5m")}},
		{`"" "a#b" "\"\\\n" "é` + "\t\x00\r\"", []api.Token{token(api.Quoted, 0, ""), token(api.Quoted, 3, "a#b"), token(api.Quoted, 9, "\"\\\n"), token(api.Quoted, 18, "é\t\x00\r")}},
		{"\"" + strings.Repeat("x", 300) + "\"", []api.Token{token(api.Quoted, 0, strings.Repeat("x", 300))}},
		{"NaN Inf sum", []api.Token{token(api.Word, 0, "NaN"), token(api.Word, 4, "Inf"), token(api.Word, 8, "sum")}},
		{"x" + strings.Repeat("y", 3999), []api.Token{token(api.Word, 0, "x"+strings.Repeat("y", 3999))}},
		{strings.Repeat("1", 200), []api.Token{token(api.Number, 0, strings.Repeat("1", 200))}},
	} {
		got, err := lex.Lex(c.s)
		if err != nil || len(got) != len(c.want) || len(got) > 0 && !reflect.DeepEqual(got, c.want) {
			t.Errorf("P8.1: %.40q: %v %v", c.s, got, err)
		}
	}
}

// P8.1: where something begins that is no token.
func TestLexWrong(t *testing.T) {
	for _, c := range []struct {
		s  string
		at int
	}{
		{"!", 0}, {"a ! = b", 2}, {".", 0}, {"a.b", 1}, {"..5", 0}, {"~", 0}, {"a $", 2}, {"é", 0}, {"'a'", 0}, {"`a`", 0}, {"a;", 1}, {"a\fb", 1}, {"a\x00", 1}, {"a\xff", 1}, {"\\", 0}, {"a & b", 2}, {"a ^ b", 2},
		{"1x", 0}, {"1e", 0}, {"1e+", 0}, {"2 1e+x", 2}, {"0x1f", 0}, {"0x1e+5", 0}, {"1_0", 0}, {"1:", 0}, {"1.2.3", 0}, {"1.5m", 0}, {"1m1h", 0}, {"5mm", 0}, {"1e5e+3", 0}, {"1e+5e+3", 0}, {"9999999999999999999y", 0}, {"(5minutes)", 1}, {strings.Repeat("1", 201), 0}, {".5s", 0},
		{`"`, 0}, {`a "b`, 2}, {`"\`, 0}, {`"\"`, 0}, {`"\t"`, 0}, {`"\x41"`, 0}, {"\"a\nb\"", 0}, {"\"\xff\"", 0}, {"\"\xc3\\\"\xa9\"", 0}, {`"\'"`, 0}, {"\"\\\n\"", 0}, {`"a" "`, 4}, {"\"\xed\xa0\x80\"", 0},
	} {
		got, err := lex.Lex(c.s)
		var f *api.Fault
		if len(got) != 0 || !errors.Is(err, api.BadToken) || !errors.As(err, &f) || f.At != c.at {
			t.Errorf("P8.1: %.40q: %v %v, want %d", c.s, got, err, c.at)
		}
	}
	for _, s := range []string{strings.Repeat(" ", 4001), strings.Repeat("!", 4001), strings.Repeat("x", 5000)} {
		if got, err := lex.Lex(s); len(got) != 0 || !errors.Is(err, api.Limit) {
			t.Errorf("P8.1: too long: %v", err)
		}
	}
	if got, err := lex.Lex(strings.Repeat(" ", 4000)); len(got) != 0 || err != nil {
		t.Errorf("P8.1: just short enough: %v", err)
	}
}

var (
	blank  = regexp.MustCompile(`^([ \t\n\r]|#[^\n]*)+`)
	word   = regexp.MustCompile(`^[a-zA-Z_:][a-zA-Z_:0-9]*`)
	number = regexp.MustCompile(`^(\.?[0-9][0-9.]*[eE][+-][a-zA-Z0-9._:]*|\.?[0-9][a-zA-Z0-9._:]*)`)
	quoted = regexp.MustCompile(`^"([^"\\\n]|\\["\\n])*"`)
	sign   = regexp.MustCompile(`^(==|!=|=~|!~|>=|<=|[=><+\-*/%@(){}\[\],])`)
)

// byWords goes by the chapter's words, in regular expressions: the tokens, or the place of a fault.
func byWords(s string) ([]api.Token, int) {
	var out []api.Token
	for at := 0; at < len(s); {
		rest := s[at:]
		if b := blank.FindString(rest); b != "" {
			at += len(b)
			continue
		}
		kind, text, raw := 0, "", ""
		if raw = word.FindString(rest); raw != "" {
			kind, text = api.Word, raw
		} else if raw = number.FindString(rest); raw != "" {
			text = raw
			if _, err := value.Parse(raw); err == nil {
				kind = api.Number
			} else if _, err := span.Parse(raw); err == nil {
				kind = api.Span
			}
		} else if raw = quoted.FindString(rest); raw != "" && utf8.ValidString(raw) {
			kind, text = api.Quoted, strings.NewReplacer(`\"`, `"`, `\\`, `\`, `\n`, "\n").Replace(raw[1:len(raw)-1])
		} else if raw = sign.FindString(rest); raw != "" {
			kind, text = api.Sign, raw
		}
		if kind == 0 {
			return nil, at
		}
		out = append(out, api.Token{Kind: kind, At: at, Text: text})
		at += len(raw)
	}
	return out, -1
}

// P8.1: each byte by itself, and behind others.
func TestLexBytes(t *testing.T) {
	for c := range 256 {
		for _, ahead := range []string{"", "a", "1", ".", "=", "!", "\"", "\"\\", "#", "1e", "("} {
			for _, behind := range []string{"", "1", "\"", "=", "~"} {
				s := ahead + string([]byte{byte(c)}) + behind
				want, at := byWords(s)
				got, err := lex.Lex(s)
				var f *api.Fault
				if at >= 0 && (!errors.As(err, &f) || f.At != at) || at < 0 && (err != nil || len(got) != len(want) || len(got) > 0 && !reflect.DeepEqual(got, want)) {
					t.Fatalf("P8.1: %q: %v %v, want %v or %d", s, got, err, want, at)
				}
			}
		}
	}
}

func someQuery(r *rand.Rand) string {
	var b strings.Builder
	pieces := []string{"a", "e", "E", "1", "5", ".", "+", "-", "=", "!", "~", ">", "\"", "\\", "n", " ", "\n", "#", "m", "s", "ms", "1e", "_", ":", "(", "]", ",", "é", "\xff", "\"a\"", "5m", "1.5"}
	for range r.Intn(9) {
		b.WriteString(pieces[r.Intn(len(pieces))])
	}
	return b.String()
}

// P8.1: texts of any signs, held against the chapter's words.
func TestLexByWords(t *testing.T) {
	r := rand.New(rand.NewSource(1))
	right := 0
	for range 60000 {
		s := someQuery(r)
		want, at := byWords(s)
		got, err := lex.Lex(s)
		var f *api.Fault
		if at >= 0 {
			if len(got) != 0 || !errors.As(err, &f) || f.At != at {
				t.Fatalf("P8.1: %q: %v %v, want %d", s, got, err, at)
			}
		} else if err != nil || len(got) != len(want) || len(got) > 0 && !reflect.DeepEqual(got, want) {
			t.Fatalf("P8.1: %q: %v %v, want %v", s, got, err, want)
		} else {
			right++
		}
	}
	if right < 5000 {
		t.Errorf("only %d were right", right)
	}
}

// ends: where each token ends: its text, or the quoted bytes.
func ends(s string, tokens []api.Token) []int {
	var out []int
	for _, x := range tokens {
		end := x.At + len(x.Text)
		if x.Kind == api.Quoted {
			end = x.At + len(quoted.FindString(s[x.At:]))
		}
		out = append(out, end)
	}
	return out
}

// P8.2: only blank is left out, and blank put between changes but places.
func TestBlank(t *testing.T) {
	r := rand.New(rand.NewSource(2))
	for range 20000 {
		s := someQuery(r)
		got, err := lex.Lex(s)
		if err != nil {
			continue
		}
		at, spread := 0, ""
		for k, end := range ends(s, got) {
			if gap := s[at:got[k].At]; blank.FindString(gap) != gap {
				t.Fatalf("P8.2: %q: %q left out", s, gap)
			}
			spread += []string{" ", "\t\r", "# remark \"\n", "\n\n"}[r.Intn(4)] + s[got[k].At:end]
			at = end
		}
		if gap := s[at:]; blank.FindString(gap) != gap {
			t.Fatalf("P8.2: %q: %q left out", s, gap)
		}
		again, err := lex.Lex(spread + " # end")
		if err != nil || len(again) != len(got) {
			t.Fatalf("P8.2: %q: %v %v", spread, again, err)
		}
		for k := range got {
			if again[k].Kind != got[k].Kind || again[k].Text != got[k].Text {
				t.Fatalf("P8.2: %q: %v, not %v", spread, again[k], got[k])
			}
		}
	}
}
