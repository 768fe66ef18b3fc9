package rate_test

import (
	"math"
	"math/big"
	"math/rand"
	"testing"

	"soundings/api"
	"soundings/rate"
)

const far = 1 << 52

func points(tv ...float64) []api.Point {
	var out []api.Point
	for k := 0; k < len(tv); k += 2 {
		out = append(out, api.Point{T: int64(tv[k]), V: math.Float64bits(tv[k+1])})
	}
	return out
}

// P12.1: growths that can be reckoned by hand.
func TestGrow(t *testing.T) {
	inf, nan := math.Inf(1), math.NaN()
	wide := 10.001 // a variable, as constants would be rounded but once
	for k, c := range []struct {
		name       string
		l          []api.Point
		start, end int64
		want       float64
	}{
		// From edge to edge, as far as a thousandth: begin 0.001, cut to 0 as it counts from 0.
		{"delta", points(1, 0, 10001, 10), 0, 10001, 10 * (10.001 / 10)},
		{"increase", points(1, 0, 10001, 10), 0, 10001, 10},
		{"rate", points(1, 0, 10001, 10), 0, 10001, 10 * (1 / wide)},
		// Gaps of no less than 1.1 times the mean count as half of it.
		{"delta", points(20000, 1, 30000, 3), 0, 60000, 2 * (20. / 10)},
		{"delta", points(11000, 1, 21000, 3), 0, 32000, 2 * (20. / 10)},
		{"delta", points(10000, 1, 20000, 3), 0, 30000, 2 * (30. / 10)},
		{"delta", points(10000, 3, 20000, 1), 0, 30000, -2 * (30. / 10)},
		// It began anew: 5 to 2 is 2 more, not 3 less.
		{"increase", points(10000, 3, 20000, 5, 30000, 2), 0, 40000, (2 - 3 + 5) * (20 + 10 + 10) / 20.},
		{"delta", points(10000, 3, 20000, 5, 30000, 2), 0, 40000, -1 * (20 + 10 + 10) / 20.},
		{"rate", points(10000, 3, 20000, 5, 30000, 2), 0, 40000, 4 * ((40. / 20) / 40)},
		// It can't have been below 0: 1 at 10 and 3 at 20 began at 5.
		{"increase", points(10000, 1, 20000, 3), 0, 30000, 2 * (25. / 10)},
		{"increase", points(10000, -1, 20000, 3), 0, 30000, 4 * (30. / 10)},
		{"increase", points(10000, 2, 20000, 2), 0, 30000, 0},
		{"delta", points(10000, inf, 20000, 1), 0, 30000, -inf},
		{"increase", points(10000, inf, 20000, 1), 0, 30000, nan},
		{"increase", points(10000, nan, 20000, 1), 0, 30000, nan},
		{"delta", points(10000, 1, 20000, nan, 30000, 3), 0, 40000, 2 * (40. / 20)},
		{"delta", points(10000, inf, 20000, inf), 0, 30000, nan},
		{"rate", points(-999, 7, far, 7), -1000, far, 0},
	} {
		got, ok := rate.Grow(c.name, c.l, c.start, c.end)
		want := math.Float64bits(c.want)
		if c.want != c.want {
			want = api.None
		}
		if !ok || got != want {
			t.Errorf("P12.1: %d: %v %v, want %v", k, math.Float64frombits(got), ok, c.want)
		}
	}
	stale := []api.Point{{T: 1, V: api.Stale}, {T: 2, V: math.Float64bits(1)}}
	if got, ok := rate.Grow("delta", stale, 0, 5); got != api.None || !ok {
		t.Errorf("rule 6: %x %v", got, ok)
	}
}

// P12.1: what has no growth.
func TestGrowWrong(t *testing.T) {
	l := points(1, 1, 2, 2)
	for k, c := range []struct {
		name       string
		l          []api.Point
		start, end int64
	}{
		{"", l, 0, 5}, {"Rate", l, 0, 5}, {"sum", l, 0, 5}, {"rate", nil, 0, 5}, {"rate", l[:1], 0, 5}, {"delta", points(2, 1, 2, 2), 0, 5}, {"delta", points(3, 1, 2, 2), 0, 5}, {"delta", points(1, 1, 3, 1, 2, 2), 0, 5},
		{"rate", l, 1, 5}, {"rate", l, 2, 5}, {"rate", l, 0, 1}, {"rate", l, 5, 0}, {"rate", l, -far - 1, 5}, {"rate", l, 0, far + 1}, {"rate", l, math.MinInt64, math.MaxInt64}, {"rate", []api.Point{{T: math.MinInt64}, {T: math.MaxInt64}}, 0, 5}, {"increase", []api.Point{{T: 1}, {T: math.MaxInt64}}, 0, 5},
	} {
		if got, ok := rate.Grow(c.name, c.l, c.start, c.end); got != 0 || ok {
			t.Errorf("P12.1: %d: %d %v", k, got, ok)
		}
	}
	for _, name := range []string{"rate", "increase", "delta"} {
		if _, ok := rate.Grow(name, points(-far+1, 1, far, 2), -far, far); !ok {
			t.Errorf("P12.1: %s over all times", name)
		}
	}
}

// exact is numbers of 53 bits, each step rounded by itself.
func exact(f float64) *big.Float                 { return new(big.Float).SetPrec(53).SetFloat64(f) }
func plus(a, b *big.Float) *big.Float            { return exact(0).Add(a, b) }
func minus(a, b *big.Float) *big.Float           { return exact(0).Sub(a, b) }
func times(a, b *big.Float) *big.Float           { return exact(0).Mul(a, b) }
func over(a, b *big.Float) *big.Float            { return exact(0).Quo(a, b) }
func less(a, b *big.Float) bool                  { return a.Cmp(b) < 0 }
func secs(from, to int64) *big.Float             { return over(exact(float64(to-from)), exact(1000)) }
func val(p api.Point) *big.Float                 { return exact(math.Float64frombits(p.V)) }
func ends(l []api.Point) (first, last api.Point) { return l[0], l[len(l)-1] }
func pick(so bool, yes, no *big.Float) (b *big.Float) {
	if so {
		return yes
	}
	return no
}

// byWords reckons as the chapter says it, step by step.
func byWords(name string, l []api.Point, start, end int64) float64 {
	first, last := ends(l)
	counts := name != "delta"
	g := minus(val(last), val(first))
	for k := range l {
		if counts && k > 0 && less(val(l[k]), val(l[k-1])) {
			g = plus(g, val(l[k-1]))
		}
	}
	begin, rest, span := secs(start, first.T), secs(last.T, end), secs(first.T, last.T)
	mean := over(span, exact(float64(len(l)-1)))
	if counts && g.Sign() > 0 && val(first).Sign() >= 0 {
		if zero := times(span, over(val(first), g)); less(zero, begin) {
			begin = zero
		}
	}
	most, half := times(mean, exact(1.1)), over(mean, exact(2))
	long := plus(span, pick(less(begin, most), begin, half))
	long = plus(long, pick(less(rest, most), rest, half))
	q := over(long, span)
	if name == "rate" {
		q = over(q, secs(start, end))
	}
	f, _ := times(g, q).Float64()
	return f
}

func somePoints(r *rand.Rand, below bool) []api.Point {
	var l []api.Point
	at := r.Int63n(2000) - 1000
	for range 2 + r.Intn(5) {
		at += 1 + r.Int63n(20000)
		v := r.Float64() * 100
		if r.Intn(3) == 0 {
			v = float64(r.Intn(5))
		}
		if below {
			v -= 30
		}
		l = append(l, api.Point{T: at, V: math.Float64bits(v)})
	}
	return l
}

// P12.1: any points, each step rounded by itself; P12.2: of numbers of at least 0 rate and increase aren't below 0.
func TestGrowByWords(t *testing.T) {
	r := rand.New(rand.NewSource(1))
	for k := range 30000 {
		l := somePoints(r, k%2 == 0)
		first, last := ends(l)
		start, end := first.T-1-r.Int63n(30000), last.T+r.Int63n(30000)
		for _, name := range []string{"rate", "increase", "delta"} {
			bits, ok := rate.Grow(name, l, start, end)
			got := math.Float64frombits(bits)
			if want := byWords(name, l, start, end); !ok || got != want {
				t.Fatalf("P12.1: %s of %v from %d to %d: %v %v, want %v", name, l, start, end, got, ok, want)
			}
			if k%2 == 1 && name != "delta" && !(got >= 0) {
				t.Fatalf("P12.2: %s of %v: %v", name, l, got)
			}
		}
	}
}

// P12.1: the document's example.
func TestExample(t *testing.T) {
	bits, ok := rate.Grow("rate", points(0, 0, 10000, 10), -1, 10000)
	if got := math.Float64frombits(bits); !ok || math.Abs(got-1) > 0.001 {
		t.Errorf("P12.1: %v %v", got, ok)
	}
}
