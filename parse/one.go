package parse

import (
	"strconv"

	"soundings/api"
	"soundings/label"
	"soundings/regex"
	"soundings/span"
	"soundings/tree"
	"soundings/value"
)

const (
	mostArgs     = 4
	mostMatchers = 10
)

func (r *reader) one() api.Expr {
	begin, ok := r.begins[r.next().Kind]
	if !ok {
		r.fail(api.BadParse)
	}
	return begin()
}

func (r *reader) number() api.Expr {
	t := r.take(true)
	v, _ := value.Parse(t.Text) // it is a number, as layer 8 says
	return api.Expr{Kind: api.Num, V: v}
}

func (r *reader) text() api.Expr {
	t := r.take(isText(r.next()))
	return api.Expr{Kind: api.Text, S: t.Text}
}

func isText(t api.Token) bool {
	return t.Kind == api.Quoted && tree.Right(api.Expr{Kind: api.Text, S: t.Text})
}

func isName(t api.Token) bool { return t.Kind == api.Word && label.IsName(t.Text) }

func (r *reader) sign() api.Expr {
	switch r.next().Text {
	case "-":
		kid := r.inside(r.one)
		return api.Expr{Kind: api.Less, Kids: []api.Expr{kid}}
	case "(":
		return r.inside(func() api.Expr {
			e := r.pairs(1)
			r.must(")")
			return e
		})
	case "{":
		return r.pick("")
	}
	r.fail(api.BadParse)
	return api.Expr{}
}

func (r *reader) word() api.Expr {
	word := r.next().Text
	switch {
	case word == "Inf" || word == "NaN":
		return r.number()
	case tree.Right(api.Expr{Kind: api.Group, S: word}):
		r.at++
		return r.group(word)
	}
	r.take(tree.Right(api.Expr{Kind: api.Pick, S: word})) // that is, a free word
	if r.sees(api.Sign, "(") {
		return api.Expr{Kind: api.Call, S: word, Kids: r.args()}
	}
	return r.pick(word)
}

func (r *reader) group(name string) api.Expr {
	e := api.Expr{Kind: api.Group, S: name}
	e.How, e.Names = r.how("by", "without")
	e.Kids = r.args()
	if e.How == 0 {
		e.How, e.Names = r.how("by", "without")
	}
	return e
}

func (r *reader) args() []api.Expr {
	if !r.sees(api.Sign, "(") {
		r.fail(api.BadParse)
	}
	args := r.inside(func() api.Expr {
		var e api.Expr
		r.list(")", mostArgs, func() { e.Kids = append(e.Kids, r.pairs(1)) })
		return e
	})
	return args.Kids
}

// list takes what stands behind an opening sign: some things, but no more than so many, with commas between, and the closing sign.
func (r *reader) list(closing string, most int, thing func()) {
	if r.may(api.Sign, closing) {
		return
	}
	for n := 1; ; n++ {
		thing()
		if n == most || !r.may(api.Sign, ",") {
			r.must(closing)
			return
		}
	}
}

func (r *reader) names() []string {
	var names []string
	r.must("(")
	r.list(")", api.MaxLabels, func() { names = append(names, r.take(isName(r.next())).Text) })
	return names
}

func (r *reader) pick(name string) api.Expr {
	e := api.Expr{Kind: api.Pick, S: name}
	if r.may(api.Sign, "{") {
		r.list("}", mostMatchers, func() { e.Ms = append(e.Ms, r.matcher()) })
	}
	if r.may(api.Sign, "[") {
		e.Wide = r.wide()
		r.must("]")
	}
	hasOff := false
	for {
		switch {
		case !e.HasAt && r.may(api.Sign, "@"):
			e.HasAt, e.At = true, r.signed(r.time)
		case !hasOff && r.may(api.Word, "offset"):
			hasOff, e.Off = true, r.signed(r.span)
		default:
			return e
		}
	}
}

func (r *reader) matcher() api.Matcher {
	ways := map[string]int{"=": api.Is, "!=": api.IsNot, "=~": api.Like, "!~": api.Unlike}
	m := api.Matcher{Name: r.take(isName(r.next())).Text}
	t := r.next()
	m.Op = ways[t.Text]
	r.take(t.Kind == api.Sign && m.Op != 0)
	t = r.next()
	isPattern := m.Op == api.Like || m.Op == api.Unlike
	if isText(t) && isPattern && regex.Check(t.Text) != nil {
		r.fail(api.BadPattern)
	}
	m.Value = r.take(isText(t)).Text
	return m
}

// wide: a span that isn't 0.
func (r *reader) wide() int64 {
	v := r.span()
	if v == 0 {
		r.back(api.BadNumber)
	}
	return v
}

func (r *reader) span() int64 {
	t := r.take(r.next().Kind == api.Span)
	v, _ := span.Parse(t.Text) // it is a span, as layer 8 says
	return v
}

// time: a number of digits alone, in thousandths.
func (r *reader) time() int64 {
	t := r.take(r.next().Kind == api.Number)
	n, err := strconv.ParseInt(t.Text, 10, 64)
	if err != nil || n > api.MaxTime/1000 {
		r.back(api.BadNumber)
	}
	return 1000 * n
}

func (r *reader) signed(what func() int64) int64 {
	if r.may(api.Sign, "-") {
		return -what()
	}
	return what()
}
