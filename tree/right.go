package tree

import (
	"math"

	"soundings/api"
	"soundings/label"
	"soundings/lex"
	"soundings/matcher"
	"soundings/value"
)

// isBare: is all zero, but the kind? Each kind's test puts zero for what it has, and asks then.
func (p part) isBare() bool {
	return p.Op == 0 && p.V == 0 && p.S == "" && len(p.Ms) == 0 && p.Wide == 0 && p.Off == 0 &&
		!p.HasAt && p.At == 0 && p.How == 0 && len(p.Names) == 0 && !p.Bool && len(p.Kids) == 0
}

func (p part) isNum() bool {
	v := p.V
	p.V = 0
	isNumber := value.Cmp(v, api.None) > 0
	return (v == api.None || isNumber && !math.Signbit(math.Float64frombits(v))) && p.isBare()
}

func (p part) isText() bool {
	s := p.S
	p.S = ""
	return isValue(s) && p.isBare()
}

func (p part) isPick() bool {
	ok := (p.S == "" || isFree(p.S)) && areRight(p.Ms) &&
		0 <= p.Wide && p.Wide <= api.MaxSpan && -api.MaxSpan <= p.Off && p.Off <= api.MaxSpan &&
		(p.HasAt || p.At == 0) && -api.MaxTime <= p.At && p.At <= api.MaxTime && p.At%1000 == 0
	p.S, p.Ms, p.Wide, p.Off, p.HasAt, p.At = "", nil, 0, 0, false, 0
	return ok && p.isBare()
}

func (p part) isCall() bool {
	ok := isFree(p.S) && len(p.Kids) <= mostKids
	p.S, p.Kids = "", nil
	return ok && p.isBare()
}

func (p part) isGroup() bool {
	ok := isGroupName(p.S) && p.isHow() && len(p.Kids) <= mostKids
	p.S, p.How, p.Names, p.Kids = "", 0, nil, nil
	return ok && p.isBare()
}

func (p part) isPair() bool {
	ok := api.Eq <= p.Op && p.Op <= api.Rest && p.isHow() && len(p.Kids) == 2
	p.Op, p.Bool, p.How, p.Names, p.Kids = 0, false, 0, nil, nil
	return ok && p.isBare()
}

func (p part) isLess() bool {
	ok := len(p.Kids) == 1
	p.Kids = nil
	return ok && p.isBare()
}

// isHow: do How and Names go together?
func (p part) isHow() bool {
	if p.How == 0 {
		return len(p.Names) == 0
	}
	if p.How != api.By && p.How != api.Without || len(p.Names) > api.MaxLabels {
		return false
	}
	for _, name := range p.Names {
		if !label.IsName(name) {
			return false
		}
	}
	return true
}

func areRight(ms []api.Matcher) bool {
	if len(ms) > mostMatchers {
		return false
	}
	for _, m := range ms {
		if !matcher.Right(m) {
			return false
		}
	}
	return true
}

// isValue: layer 1 tells it of a matcher's value, and of an empty one, too.
func isValue(s string) bool {
	return matcher.Right(api.Matcher{Op: api.Is, Name: api.Name, Value: s})
}

func isFree(s string) bool {
	switch s {
	case "by", "without", "on", "ignoring", "bool", "offset", "Inf", "NaN":
		return false
	}
	return !isGroupName(s) && isWord(s)
}

func isWord(s string) bool {
	if len(s) > api.MaxText {
		return false
	}
	tokens, err := lex.Lex(s)
	return err == nil && len(tokens) == 1 && tokens[0].Kind == api.Word && tokens[0].Text == s
}

func isGroupName(s string) bool {
	switch s {
	case "sum", "avg", "min", "max", "count", "topk", "bottomk":
		return true
	}
	return false
}
