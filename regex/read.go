package regex

import (
	"strings"

	"soundings/api"
)

// reader goes through a pattern from its first byte on, so that a fault is at the first byte that can't be.
type reader struct {
	machine
	text     string
	at, open int
}

func read(p string) (*machine, error) {
	if len(p) > api.MaxText {
		return nil, &api.Fault{At: 0, Err: api.BadPattern}
	}
	r := &reader{text: p}
	all, err := r.alt()
	if err != nil {
		return nil, err
	}
	if !r.ended() {
		return nil, r.bad()
	}
	r.whole(all)
	return &r.machine, nil
}

func (r *reader) ended() bool { return r.at == len(r.text) }

func (r *reader) sees(signs string) bool {
	return !r.ended() && strings.IndexByte(signs, r.text[r.at]) >= 0
}

func (r *reader) bad() error { return &api.Fault{At: r.at, Err: api.BadPattern} }

func (r *reader) alt() (piece, error) {
	all, err := r.cat()
	for err == nil && r.sees("|") {
		r.at++
		var next piece
		next, err = r.cat()
		all = r.either(all, next)
	}
	return all, err
}

func (r *reader) cat() (piece, error) {
	all := piece{empty: true}
	for !r.ended() && !r.sees("|)") {
		next, err := r.rep()
		if err != nil {
			return piece{}, err
		}
		all = r.chain(all, next)
	}
	return all, nil
}

func (r *reader) rep() (piece, error) {
	a, err := r.atom()
	for err == nil && r.sees("*+?") {
		a = r.repeat(a, r.text[r.at])
		r.at++
	}
	return a, err
}

func (r *reader) atom() (piece, error) {
	switch c := r.text[r.at]; c {
	case '(':
		return r.group()
	case '[':
		return r.class()
	case ']', '{', '}', '^', '$', '*', '+', '?':
		return piece{}, r.bad()
	case '.':
		r.at++
		return r.place(set{}.not()), nil
	default:
		c, err := r.char()
		return r.place(one(c)), err
	}
}

func (r *reader) group() (piece, error) {
	if r.open == api.MaxNest {
		return piece{}, &api.Fault{At: r.at, Err: api.Deep}
	}
	r.open++
	r.at++
	a, err := r.alt()
	if err != nil {
		return piece{}, err
	}
	if !r.sees(")") {
		return piece{}, r.bad()
	}
	r.open--
	r.at++
	return a, nil
}

// char takes a byte that stands for itself, or the one behind a \.
func (r *reader) char() (byte, error) {
	if r.sees("\\") {
		r.at++
	}
	if r.ended() {
		return 0, r.bad()
	}
	c := r.text[r.at]
	r.at++
	return c, nil
}

func (r *reader) class() (piece, error) {
	r.at++
	not := r.sees("^")
	if not {
		r.at++
	}
	var takes set
	for first := true; first || !r.sees("]"); first = false {
		if err := r.item(&takes); err != nil {
			return piece{}, err
		}
	}
	r.at++
	if not {
		takes = takes.not()
	}
	return r.place(takes), nil
}

func (r *reader) item(takes *set) error {
	low, err := r.classChar()
	if err != nil {
		return err
	}
	high := low
	if r.sees("-") {
		r.at++
		high, err = r.classChar()
		if err != nil {
			return err
		}
		if high < low {
			r.at-- // the fault is the byte that is less, not what comes behind it
			return r.bad()
		}
	}
	for k := int(low); k <= int(high); k++ {
		takes.add(k)
	}
	return nil
}

func (r *reader) classChar() (byte, error) {
	if r.sees("][^-") {
		return 0, r.bad()
	}
	return r.char()
}
