package tree

import (
	"strconv"
	"strings"

	"soundings/api"
	"soundings/span"
	"soundings/value"
)

// Print: the text of a tree. BadParse.
func Print(e api.Expr) (string, error) {
	if !Right(e) {
		return "", api.BadParse
	}
	var w writer
	w.part(part{e})
	return w.String(), nil
}

// writer puts texts one behind the other.
type writer struct{ strings.Builder }

func (w *writer) put(texts ...string) {
	for _, t := range texts {
		w.WriteString(t)
	}
}

// wrap puts a part, in parentheses, if it is so.
func (w *writer) wrap(p part, so bool) {
	if so {
		w.put("(")
	}
	w.part(p)
	if so {
		w.put(")")
	}
}

func (w *writer) part(p part) {
	puts := [...]func(*writer, part){
		api.Num: (*writer).num, api.Text: (*writer).text, api.Pick: (*writer).pick, api.Call: (*writer).call,
		api.Group: (*writer).group, api.Pair: (*writer).pair, api.Less: (*writer).less,
	}
	puts[p.Kind](w, p)
}

func (w *writer) num(p part) {
	text := value.Text(p.V)
	w.put(strings.TrimPrefix(text, "+")) // of an infinite one, which no query tells with a +
}

func (w *writer) text(p part) { w.put(quoted(p.S)) }

func quoted(s string) string {
	s = strings.ReplaceAll(s, `\`, `\\`)
	s = strings.ReplaceAll(s, `"`, `\"`)
	s = strings.ReplaceAll(s, "\n", `\n`)
	return `"` + s + `"`
}

func (w *writer) pick(p part) {
	w.put(p.S)
	if len(p.Ms) > 0 || p.S == "" {
		w.matchers(p.Ms)
	}
	if p.Wide != 0 {
		w.put("[", long(p.Wide), "]")
	}
	if p.HasAt {
		w.put(" @ ", strconv.FormatInt(p.At/1000, 10))
	}
	if p.Off != 0 {
		w.put(" offset ", long(p.Off))
	}
}

func (w *writer) matchers(ms []api.Matcher) {
	signs := [...]string{api.Is: "=", api.IsNot: "!=", api.Like: "=~", api.Unlike: "!~"}
	w.put("{")
	for k, m := range ms {
		w.put(comma(k), m.Name, signs[m.Op], quoted(m.Value))
	}
	w.put("}")
}

// comma: what stands ahead of one of several.
func comma(k int) string {
	if k == 0 {
		return ""
	}
	return ", "
}

// long: the text of a span that may be below 0; a right tree has none that layer 7 has no text of.
func long(v int64) string {
	sign := ""
	if v < 0 {
		sign, v = "-", -v
	}
	text, _ := span.Text(v)
	return sign + text
}

func (w *writer) call(p part) {
	w.put(p.S)
	w.args(p)
}

func (w *writer) args(p part) {
	w.put("(")
	for k, kid := range p.Kids {
		w.put(comma(k))
		w.part(part{kid})
	}
	w.put(")")
}

func (w *writer) group(p part) {
	w.put(p.S)
	if p.How != 0 {
		w.put(" ")
	}
	w.how(p, "by", "without")
	w.args(p)
}

func (w *writer) how(p part, words ...string) {
	if p.How != 0 {
		w.put(words[p.How-api.By], " (", strings.Join(p.Names, ", "), ") ")
	}
}

// pair goes down to the left in a loop, as that may be far, and puts what is to the right on its way back.
func (w *writer) pair(p part) {
	var down []part
	for ; p.Kind == api.Pair; p = (part{p.Kids[0]}) {
		down = append(down, p)
		if p.isWrapped(0) {
			w.put("(")
		}
	}
	w.part(p)
	for k := len(down) - 1; k >= 0; k-- {
		if down[k].isWrapped(0) {
			w.put(")")
		}
		w.right(down[k])
	}
}

// right puts what a pair has behind its first kid.
func (w *writer) right(p part) {
	signs := [...]string{
		api.Eq: "==", api.Ne: "!=", api.Gt: ">", api.Lt: "<", api.Ge: ">=", api.Le: "<=",
		api.Plus: "+", api.Minus: "-", api.Times: "*", api.Over: "/", api.Rest: "%",
	}
	w.put(" ", signs[p.Op], " ")
	if p.Bool {
		w.put("bool ")
	}
	w.how(p, "on", "ignoring")
	w.wrap(part{p.Kids[1]}, p.isWrapped(1))
}

func (w *writer) less(p part) {
	w.put("-")
	w.wrap(part{p.Kids[0]}, p.Kids[0].Kind == api.Pair)
}
