// Package label is layer 1: names and values, in order. See shared/doc/01-label.md.
package label

import (
	"cmp"
	"slices"
	"unicode/utf8"

	"soundings/api"
)

// tag is a label that can be held against another one.
type tag api.Label

func (a tag) cmp(b tag) int {
	if c := cmp.Compare(a.Name, b.Name); c != 0 {
		return c
	}
	return cmp.Compare(a.Value, b.Value)
}

// among is a list of names that a label's name may be one of.
type among []string

func (a among) has(l api.Label) bool { return slices.Contains(a, l.Name) }

// IsName: is a text a name?
func IsName(s string) bool {
	if s == "" || len(s) > api.MaxText || isDigit(s[0]) {
		return false
	}
	for k := range len(s) {
		if !isLetter(s[k]) && !isDigit(s[k]) {
			return false
		}
	}
	return true
}

func isLetter(c byte) bool {
	return 'a' <= c && c <= 'z' || 'A' <= c && c <= 'Z' || c == '_'
}

func isDigit(c byte) bool { return '0' <= c && c <= '9' }

func isValue(s string) bool { return len(s) <= api.MaxText && utf8.ValidString(s) }

// Right: are labels right?
func Right(l []api.Label) bool {
	if len(l) > api.MaxLabels {
		return false
	}
	for k, x := range l {
		if !IsName(x.Name) || x.Value == "" || !isValue(x.Value) {
			return false
		}
		if k > 0 && l[k-1].Name >= x.Name {
			return false
		}
	}
	return true
}

// Make: labels, right. BadLabel.
func Make(l []api.Label) ([]api.Label, error) {
	tags := make([]tag, 0, len(l))
	for _, x := range l {
		if !IsName(x.Name) || !isValue(x.Value) {
			return nil, api.BadLabel
		}
		tags = append(tags, tag(x))
	}
	slices.SortFunc(tags, tag.cmp)
	var out []api.Label
	for k, x := range tags {
		// Ahead of leaving out the empty ones: they count as names all the same.
		if k > 0 && tags[k-1].Name == x.Name {
			return nil, api.BadLabel
		}
		if x.Value != "" {
			out = append(out, api.Label(x))
		}
	}
	if len(out) > api.MaxLabels {
		return nil, api.BadLabel
	}
	return out, nil
}

// Cmp: -1, 0 or 1.
func Cmp(a, b []api.Label) int {
	for k := range min(len(a), len(b)) {
		if c := tag(a[k]).cmp(tag(b[k])); c != 0 {
			return c
		}
	}
	return cmp.Compare(len(a), len(b))
}

// Get: the value of a name.
func Get(l []api.Label, name string) string {
	for _, x := range l {
		if x.Name == name {
			return x.Value
		}
	}
	return ""
}

// Keep: labels whose names are among some.
func Keep(l []api.Label, some []string) []api.Label {
	return those(l, among(some).has)
}

// Drop: labels whose names aren't among some.
func Drop(l []api.Label, some []string) []api.Label {
	has := among(some).has
	return those(l, func(x api.Label) bool { return !has(x) })
}

// those copies, so that an answer never shares memory with what was handed in.
func those(l []api.Label, wanted func(api.Label) bool) []api.Label {
	out := make([]api.Label, 0, len(l))
	for _, x := range l {
		if wanted(x) {
			out = append(out, x)
		}
	}
	return out
}
