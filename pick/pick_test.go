package pick_test

import (
	"math"
	"math/rand"
	"slices"
	"testing"

	"soundings/api"
	"soundings/pick"
)

const far = 1 << 61

func points(ts ...int64) []api.Point {
	var out []api.Point
	for _, t := range ts {
		out = append(out, api.Point{T: t, V: uint64(t + 100)})
	}
	return out
}

// P6.1: the places of series.
func TestWhere(t *testing.T) {
	var s []api.Series
	for _, v := range []string{"1", "2", "1", "3"} {
		s = append(s, api.Series{Labels: []api.Label{{Name: "a", Value: v}}})
	}
	is := func(op int, v string) api.Matcher { return api.Matcher{Op: op, Name: "a", Value: v} }
	for k, c := range []struct {
		ms   []api.Matcher
		want []int
	}{
		{nil, []int{0, 1, 2, 3}}, {[]api.Matcher{is(api.Is, "1")}, []int{0, 2}}, {[]api.Matcher{is(api.IsNot, "1")}, []int{1, 3}},
		{[]api.Matcher{is(api.Like, "1|3"), is(api.IsNot, "1")}, []int{3}}, {[]api.Matcher{is(api.Is, "9")}, nil}, {[]api.Matcher{is(9, "1")}, nil}, {[]api.Matcher{is(api.Like, "(")}, nil},
	} {
		if got := pick.Where(s, c.ms); !slices.Equal(got, c.want) {
			t.Errorf("P6.1: %d: %v", k, got)
		}
	}
	if len(pick.Where(nil, nil)) != 0 {
		t.Error("P6.1: of none")
	}
}

// P6.2: the sample at a time.
func TestAt(t *testing.T) {
	l := points(1, 5)
	ended := append(points(1, 5), api.Point{T: 8, V: api.Stale}, api.Point{T: 12, V: api.None})
	for k, c := range []struct {
		l       []api.Point
		t, back int64
		want    uint64
		ok      bool
	}{
		{l, 9, 5, 105, true}, {l, 9, 4, 0, false}, {l, 5, 1, 105, true}, {l, 4, 4, 101, true}, {l, 4, 3, 0, false}, {l, 1, 1, 101, true}, {l, 0, 9, 0, false}, {nil, 0, 9, 0, false},
		{ended, 7, 9, 105, true}, {ended, 8, 9, 0, false}, {ended, 11, 99, 0, false}, {ended, 12, 9, api.None, true},
		{points(-far, far), far, 1, uint64(far + 100), true}, {points(-far), far, far, 0, false}, {points(1 - far), 0, far, math.MaxUint64 - uint64(far) + 102, true}, {points(-far), -far, far, math.MaxUint64 - uint64(far) + 101, true},
	} {
		if got, ok := pick.At(c.l, c.t, c.back); got != c.want || ok != c.ok {
			t.Errorf("P6.2: At %d: %d %v", k, got, ok)
		}
	}
}

// P6.2: the points of a window.
func TestWindow(t *testing.T) {
	l := append(points(1, 5), api.Point{T: 8, V: api.Stale}, api.Point{T: 9, V: api.None}, api.Point{T: 12, V: 7})
	for k, c := range []struct {
		t, wide int64
		want    []api.Point
	}{
		{12, 11, []api.Point{l[1], l[3], l[4]}}, {12, 12, []api.Point{l[0], l[1], l[3], l[4]}}, {11, 6, []api.Point{l[3]}}, {8, 3, nil}, {8, 4, points(5)}, {0, 99, nil}, {12, 1, l[4:]}, {100, far, []api.Point{l[0], l[1], l[3], l[4]}},
	} {
		got := pick.Window(l, c.t, c.wide)
		if !slices.Equal(got, c.want) {
			t.Errorf("P6.2: Window %d: %v", k, got)
		}
		for k := range got {
			got[k].V = 12345
		}
	}
	if l[0].V != 101 || l[3].V != api.None {
		t.Error("rule 3: changed")
	}
}

// P6.2: what is handed in may not be so.
func TestWrong(t *testing.T) {
	for k, c := range []struct {
		l       []api.Point
		t, wide int64
	}{
		{points(1, 1), 5, 9}, {points(2, 1), 5, 9}, {points(1, 9, 8), 5, 9}, {points(1, far+1), 5, 9}, {points(-far-1, 1), 5, 9}, {points(1), far + 1, far}, {points(1), -far - 1, 9},
		{points(1), 5, 0}, {points(1), 5, -1}, {points(1), 5, far + 1}, {points(1), math.MaxInt64, math.MaxInt64}, {points(1), 5, math.MinInt64}, {points(math.MaxInt64), 5, 9}, {points(math.MinInt64, 1), 5, 9},
	} {
		if got, ok := pick.At(c.l, c.t, c.wide); got != 0 || ok {
			t.Errorf("P6.2: At %d: %d %v", k, got, ok)
		}
		if got := pick.Window(c.l, c.t, c.wide); len(got) != 0 {
			t.Errorf("P6.2: Window %d: %v", k, got)
		}
	}
}

// P6.3: windows end with At's sample, and are two that meet; and both are what going through all points tells.
func TestFollows(t *testing.T) {
	r := rand.New(rand.NewSource(1))
	for range 5000 {
		var l []api.Point
		at := int64(-20)
		for range r.Intn(8) {
			at += 1 + r.Int63n(6)
			l = append(l, api.Point{T: at, V: []uint64{api.Stale, 1, 2, api.None}[r.Intn(4)]})
		}
		now, wide := r.Int63n(60)-30, 1+r.Int63n(30)
		var want []api.Point
		last, has := api.Point{}, false
		for _, p := range l {
			if p.T <= now && p.T > now-wide {
				last, has = p, p.V != api.Stale
				if has {
					want = append(want, p)
				}
			}
		}
		got := pick.Window(l, now, wide)
		v, ok := pick.At(l, now, wide)
		if !slices.Equal(got, want) || ok != has || ok && v != last.V {
			t.Fatalf("P6.2: %v at %d by %d: %v, %d %v", l, now, wide, got, v, ok)
		}
		if ok && got[len(got)-1].V != v {
			t.Fatalf("P6.3: %v at %d by %d", l, now, wide)
		}
		if wide > 1 {
			cut := 1 + r.Int63n(wide-1)
			two := slices.Concat(pick.Window(l, now-cut, wide-cut), pick.Window(l, now, cut))
			if !slices.Equal(two, got) {
				t.Fatalf("P6.3: %v at %d by %d cut at %d", l, now, wide, cut)
			}
		}
	}
}
