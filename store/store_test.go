package store_test

import (
	"errors"
	"math"
	"math/rand"
	"reflect"
	"strings"
	"testing"

	"soundings/api"
	"soundings/label"
	"soundings/store"
)

func set(s ...string) []api.Label {
	var out []api.Label
	for k := 0; k < len(s); k += 2 {
		out = append(out, api.Label{Name: s[k], Value: s[k+1]})
	}
	return out
}

func points(ts ...int64) []api.Point {
	var out []api.Point
	for _, t := range ts {
		out = append(out, api.Point{T: t, V: math.Float64bits(float64(t))})
	}
	return out
}

func small() []api.Series {
	return []api.Series{{Labels: set("a", "1"), Points: points(1, 5)}, {Labels: set("a", "1", "b", "1"), Points: points(0)}, {Labels: set("c", "1"), Points: points(-3, 0, 9)}}
}

// P5.1: which stores are right.
func TestRight(t *testing.T) {
	edge := []api.Series{{Labels: set("a", "1"), Points: []api.Point{{T: -api.MaxTime, V: api.Stale}, {T: api.MaxTime, V: api.None}}}}
	for k, s := range [][]api.Series{nil, {}, small(), edge} {
		if !store.Right(s) {
			t.Errorf("P5.1: %d is right", k)
		}
	}
	one := func(l []api.Label, p ...api.Point) []api.Series { return []api.Series{{Labels: l, Points: p}} }
	for k, s := range [][]api.Series{
		one(nil, points(1)...), one(set("a", ""), points(1)...), one(set("b", "1", "a", "1"), points(1)...), one(set("a", strings.Repeat("x", 201)), points(1)...),
		one(set("a", "1")), one(set("a", "1"), points(1, 1)...), one(set("a", "1"), points(2, 1)...),
		one(set("a", "1"), points(-api.MaxTime-1)...), one(set("a", "1"), points(0, api.MaxTime+1)...), one(set("a", "1"), api.Point{T: 1, V: math.MaxUint64}),
		{small()[1], small()[0]}, {small()[0], small()[0]},
	} {
		if store.Right(s) {
			t.Errorf("P5.1: %d isn't right", k)
		}
		if got, err := store.Append(s, set("1", ""), api.Point{T: math.MaxInt64}); !errors.Is(err, api.BadOrder) || len(got) != 0 {
			t.Errorf("P5.2: %d: %v %v", k, got, err)
		}
	}
}

// P5.1: places of labels, in series of any order.
func TestFind(t *testing.T) {
	s := small()
	mixed := []api.Series{s[2], s[0], s[1], s[0]}
	for k, c := range []struct {
		s    []api.Series
		l    []api.Label
		at   int
		here bool
	}{
		{nil, nil, 0, false}, {nil, set("a", "1"), 0, false}, {s, nil, 0, false}, {s, set("a", "1"), 0, true}, {s, set("a", "1", "b", "1"), 1, true}, {s, set("c", "1"), 2, true},
		{s, set("a", "0"), 0, false}, {s, set("a", "1", "a", "1"), 1, false}, {s, set("b", "1"), 2, false}, {s, set("c", "1", "d", "1"), 3, false}, {s, set("z", "1"), 3, false},
		{mixed, set("a", "1"), 1, true}, {mixed, set("c", "1"), 0, true}, {mixed, set("b", "1"), 0, false}, {mixed, set("d", "1"), 4, false}, {mixed[1:], set("a", "1", "b", "0"), 1, false}, {[]api.Series{s[0], s[0], s[2]}, set("a", "1"), 0, true},
	} {
		if at, here := store.Find(c.s, c.l); at != c.at || here != c.here {
			t.Errorf("P5.1: Find %d: %d %v", k, at, here)
		}
	}
	for k, c := range []struct {
		s    []api.Series
		want int
	}{{nil, 0}, {s, 6}, {mixed, 8}, {[]api.Series{{}}, 0}} {
		if got := store.Many(c.s); got != c.want {
			t.Errorf("P5.1: Many %d: %d", k, got)
		}
	}
}

// P5.2: points that are appended, each to a store as it was.
func TestAppend(t *testing.T) {
	s := small()
	for k, c := range []struct {
		l  []api.Label
		p  api.Point
		at int
		v  uint64
	}{
		{set("a", "1"), api.Point{T: 6, V: 7}, 0, 7},
		{set("c", "1", "b", ""), api.Point{T: 10, V: math.MaxUint64}, 2, api.None},
		{set("b", "1", "a", "1"), api.Point{T: api.MaxTime, V: api.Stale}, 1, api.Stale},
		{set("A", "1"), api.Point{T: -api.MaxTime}, 0, 0},
		{set("b", "1"), api.Point{T: 1}, 2, 0},
		{set("z", "1"), api.Point{T: 1, V: 1 << 63}, 3, 1 << 63},
	} {
		got, err := store.Append(s, c.l, c.p)
		if err != nil || !store.Right(got) || store.Many(got) != 7 {
			t.Errorf("P5.2: %d: %v %v", k, got, err)
			continue
		}
		made, _ := label.Make(c.l)
		x := got[c.at]
		if label.Cmp(x.Labels, made) != 0 || x.Points[len(x.Points)-1] != (api.Point{T: c.p.T, V: c.v}) {
			t.Errorf("P5.2: %d: %v", k, x)
		}
		if !reflect.DeepEqual(s, small()) {
			t.Fatalf("rule 3: %d: changed", k)
		}
	}
}

// P5.2: points that aren't accepted, by the first of what is wrong.
func TestAppendWrong(t *testing.T) {
	s := small()
	for k, c := range []struct {
		l    []api.Label
		t    int64
		want api.Code
	}{
		{nil, math.MaxInt64, api.BadLabel}, {set("a", ""), 1, api.BadLabel}, {set("a", "1", "a", "2"), 1, api.BadLabel}, {set("é", "1"), math.MinInt64, api.BadLabel},
		{set("a", "1"), api.MaxTime + 1, api.BadTime}, {set("a", "1"), -api.MaxTime - 1, api.BadTime}, {set("a", "1"), math.MinInt64, api.BadTime},
		{set("a", "1"), 5, api.BadOrder}, {set("a", "1"), 4, api.BadOrder}, {set("c", "1", "x", ""), 0, api.BadOrder}, {set("a", "1", "b", "1"), 0, api.BadOrder},
	} {
		if got, err := store.Append(s, c.l, api.Point{T: c.t}); !errors.Is(err, c.want) || len(got) != 0 {
			t.Errorf("P5.2: %d: %v %v", k, got, err)
		}
	}
	if !reflect.DeepEqual(s, small()) {
		t.Error("rule 3: changed")
	}
}

// Rule 3: spare room of what is handed in stays as it was.
func TestSpareRoom(t *testing.T) {
	room := points(1, 2, 3)
	list := []api.Series{{Labels: set("a", "1"), Points: room[:2]}, {Labels: set("c", "1"), Points: points(1)}, {Labels: set("spare", "1")}}
	for _, l := range [][]api.Label{set("a", "1"), set("b", "1"), set("d", "1")} {
		if _, err := store.Append(list[:2], l, api.Point{T: 9, V: 9}); err != nil {
			t.Error(err)
		}
	}
	if room[2] != points(3)[0] || list[1].Labels[0].Name != "c" || list[2].Labels[0].Name != "spare" || len(list[0].Points) != 2 {
		t.Errorf("rule 3: %v %v", room, list)
	}
	a, _ := store.Append(list[:2], set("a", "1"), api.Point{T: 7})
	b, _ := store.Append(a, set("a", "1"), api.Point{T: 8})
	c, _ := store.Append(a, set("a", "1"), api.Point{T: 9})
	if b[0].Points[3].T != 8 || c[0].Points[3].T != 9 {
		t.Error("rule 3: two stores of one share what differs")
	}
}

// P5.3: points of unlike labels in any order make the same store, which stays right.
func TestAnyOrder(t *testing.T) {
	r := rand.New(rand.NewSource(1))
	for range 300 {
		var queues [][]api.Point
		for range 4 {
			var q []api.Point
			for t := range int64(r.Intn(5)) {
				q = append(q, api.Point{T: t*3 + r.Int63n(3), V: r.Uint64()})
			}
			queues = append(queues, q)
		}
		var first []api.Series
		for try := range 3 {
			var s []api.Series
			left := append([][]api.Point{}, queues...)
			for n := 0; n < len(left); {
				k := r.Intn(len(left))
				if len(left[k]) == 0 {
					n = 0
					for _, q := range left {
						if len(q) == 0 {
							n++
						}
					}
					continue
				}
				var err error
				s, err = store.Append(s, set("n", string(rune('a'+k))), left[k][0])
				if err != nil || !store.Right(s) {
					t.Fatalf("P5.3: %v", err)
				}
				left[k] = left[k][1:]
			}
			if try == 0 {
				first = s
			}
			if !reflect.DeepEqual(s, first) {
				t.Fatalf("P5.3: %v and %v", s, first)
			}
		}
	}
}
