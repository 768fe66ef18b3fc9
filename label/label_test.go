package label_test

import (
	"errors"
	"fmt"
	"math/rand"
	"slices"
	"strings"
	"testing"

	"soundings/api"
	"soundings/label"
)

func set(s ...string) []api.Label {
	var out []api.Label
	for k := 0; k < len(s); k += 2 {
		out = append(out, api.Label{Name: s[k], Value: s[k+1]})
	}
	return out
}

func numbered(n int, value string) []api.Label {
	var out []api.Label
	for k := range n {
		out = append(out, api.Label{Name: fmt.Sprintf("n%02d", k), Value: value})
	}
	return out
}

// P1.1: which texts are names.
func TestIsName(t *testing.T) {
	for _, s := range []string{"a", "Z", "_", "__name__", "a0", "aZ_9", strings.Repeat("x", 200)} {
		if !label.IsName(s) {
			t.Errorf("P1.1: %q is a name", s)
		}
	}
	for _, s := range []string{"", "0", "9a", "a-b", "a:b", "a b", "é", "a\x00", "a\xff", strings.Repeat("x", 201)} {
		if label.IsName(s) {
			t.Errorf("P1.1: %q is no name", s)
		}
	}
	for c := range 256 {
		alone, behind := label.IsName(string([]byte{byte(c)})), label.IsName(string([]byte{'a', byte(c)}))
		digit := c >= '0' && c <= '9'
		letter := c >= 'a' && c <= 'z' || c >= 'A' && c <= 'Z' || c == '_'
		if alone != letter || behind != (letter || digit) {
			t.Errorf("P1.1: byte %d: %v %v", c, alone, behind)
		}
	}
}

// P1.1: which labels are right.
func TestRight(t *testing.T) {
	for k, l := range [][]api.Label{nil, {}, set("a", "1"), set("A", "1", "_", "2", "a", "3"), set("a", "\x00"), set("a", strings.Repeat("é", 100)), numbered(16, "x")} {
		if !label.Right(l) {
			t.Errorf("P1.1: %d is right", k)
		}
	}
	for k, l := range [][]api.Label{set("a", ""), set("b", "1", "a", "1"), set("a", "1", "a", "2"), set("a", "1", "a", "1"), set("1", "x"), set("", "x"), set("a", "\xff"), set("a", "\xed\xa0\x80"), set("a", strings.Repeat("x", 201)), numbered(17, "x")} {
		if label.Right(l) {
			t.Errorf("P1.1: %d isn't right", k)
		}
	}
}

// P1.1: what is made of labels, and what isn't.
func TestMake(t *testing.T) {
	for k, c := range []struct{ l, want []api.Label }{
		{nil, nil},
		{set("b", "2", "a", "1", "c", ""), set("a", "1", "b", "2")},
		{set("a", ""), nil},
		{set("a", "1", "_", "2", "A", "3"), set("A", "3", "_", "2", "a", "1")},
		{append(numbered(16, "x"), numbered(17, "")[16]), numbered(16, "x")},
		{numbered(300, ""), nil},
	} {
		was := slices.Clone(c.l)
		got, err := label.Make(c.l)
		if err != nil || !slices.Equal(got, c.want) {
			t.Errorf("P1.1: %d: %v %v", k, got, err)
		}
		if !slices.Equal(was, c.l) {
			t.Errorf("rule 3: %d: changed", k)
		}
	}
	for k, l := range [][]api.Label{set("a", "1", "b", "1", "a", "1"), set("a", "", "a", ""), set("a", "1", "a", ""), set("a-", ""), set("", ""), set("a", "\xc3"), set("a", strings.Repeat("x", 201)), set(strings.Repeat("x", 201), "1"), numbered(17, "x")} {
		if got, err := label.Make(l); !errors.Is(err, api.BadLabel) || len(got) != 0 {
			t.Errorf("P1.1: %d: %v %v", k, got, err)
		}
	}
}

// P1.2: the order of labels.
func TestCmp(t *testing.T) {
	rising := [][]api.Label{nil, set("A", "z"), set("a", ""), set("a", "1"), set("a", "1", "a", "1"), set("a", "1", "b", "1"), set("a", "1", "b", "1", "c", "0"), set("a", "1", "b", "2"), set("a", "1", "c", "0"), set("a", "10"), set("a", "2"), set("a", "\xff"), set("aa", "0"), set("b", "")}
	for i, a := range rising {
		for j, b := range rising {
			want := 0
			if i < j {
				want = -1
			} else if i > j {
				want = 1
			}
			if got := label.Cmp(a, b); got != want {
				t.Errorf("P1.2: %v and %v: %d", a, b, got)
			}
		}
	}
}

// P1.2: the value of a name, and what is kept and dropped, of any labels.
func TestParts(t *testing.T) {
	l := set("b", "1", "a", "2", "b", "3", "c", "")
	if label.Get(l, "b") != "1" || label.Get(l, "a") != "2" || label.Get(l, "c") != "" || label.Get(l, "") != "" || label.Get(nil, "a") != "" {
		t.Error("P1.2: Get")
	}
	for k, c := range []struct {
		names      []string
		kept, left []api.Label
	}{
		{nil, nil, l},
		{[]string{"z", "a", "a"}, set("a", "2"), set("b", "1", "b", "3", "c", "")},
		{[]string{"c", "b"}, set("b", "1", "b", "3", "c", ""), set("a", "2")},
		{[]string{"a", "b", "c"}, l, nil},
	} {
		if got := label.Keep(l, c.names); !slices.Equal(got, c.kept) {
			t.Errorf("P1.2: Keep %d: %v", k, got)
		}
		if got := label.Drop(l, c.names); !slices.Equal(got, c.left) {
			t.Errorf("P1.2: Drop %d: %v", k, got)
		}
	}
}

// P1.3: right labels stay right, and kept and dropped ones are all.
func TestStayRight(t *testing.T) {
	r := rand.New(rand.NewSource(1))
	names := []string{"A", "__name__", "a", "b", "c", "d", "z9"}
	for range 2000 {
		var l []api.Label
		for _, n := range names {
			if r.Intn(2) == 0 {
				l = append(l, api.Label{Name: n, Value: strings.Repeat("v", 1+r.Intn(3))})
			}
		}
		mixed := slices.Clone(l)
		r.Shuffle(len(mixed), func(i, j int) { mixed[i], mixed[j] = mixed[j], mixed[i] })
		if got, err := label.Make(mixed); err != nil || !slices.Equal(got, l) || !label.Right(got) {
			t.Fatalf("P1.3: made again: %v %v", got, err)
		}
		var some []string
		for range r.Intn(4) {
			some = append(some, names[r.Intn(len(names))])
		}
		kept, left := label.Keep(l, some), label.Drop(l, some)
		if !label.Right(kept) || !label.Right(left) {
			t.Fatalf("P1.3: %v by %v: %v, %v", l, some, kept, left)
		}
		all, err := label.Make(slices.Concat(kept, left))
		if err != nil || !slices.Equal(all, l) {
			t.Fatalf("P1.3: %v by %v: %v in all", l, some, all)
		}
	}
}

// Rule 3: neither what is handed in nor its spare room is changed, and answers don't share it.
func TestOwnMemory(t *testing.T) {
	room := set("a", "1", "b", "2", "spare", "room")
	l := room[:2]
	kept := label.Keep(l, []string{"a", "b"})
	kept[0].Value = "changed"
	left := label.Drop(l, nil)
	left[1].Value = "changed"
	_ = append(kept, api.Label{Name: "x"})
	if !slices.Equal(room, set("a", "1", "b", "2", "spare", "room")) {
		t.Errorf("rule 3: %v", room)
	}
}
