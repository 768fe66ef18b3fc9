package value_test

import (
	"errors"
	"math"
	"math/big"
	"math/rand"
	"regexp"
	"strings"
	"testing"

	"soundings/api"
	"soundings/value"
)

func bits(f float64) uint64 { return math.Float64bits(f) }

var quiet = uint64(0x7FF8000000000000)

// P4.1: what is normal, and what isn't.
func TestNorm(t *testing.T) {
	for _, v := range []uint64{0, 1, bits(math.Copysign(0, -1)), bits(1.5), bits(math.Inf(1)), bits(math.Inf(-1)), api.Stale, api.None, bits(math.MaxFloat64)} {
		if value.Norm(v) != v {
			t.Errorf("P4.1: %x: %x", v, value.Norm(v))
		}
	}
	for _, v := range []uint64{quiet, 0x7FF0000000000001, 0x7FF0000000000003, 0xFFF8000000000001, 0xFFF0000000000002, math.MaxUint64, 0x7FFFFFFFFFFFFFFF} {
		if value.Norm(v) != api.None {
			t.Errorf("P4.1: %x: %x", v, value.Norm(v))
		}
	}
}

// P4.1: the same bits, by Norm.
func TestSame(t *testing.T) {
	for _, c := range []struct {
		a, b uint64
		want bool
	}{{quiet, api.None, true}, {quiet, math.MaxUint64, true}, {api.Stale, api.None, false}, {api.Stale, api.Stale, true}, {0, bits(math.Copysign(0, -1)), false}, {bits(1), bits(1), true}, {bits(1), bits(2), false}, {bits(math.Inf(1)), api.None, false}} {
		if value.Same(c.a, c.b) != c.want || value.Same(c.b, c.a) != c.want {
			t.Errorf("P4.1: %x %x", c.a, c.b)
		}
	}
}

// P4.1: numbers in order; what is no number ahead of all.
func TestCmp(t *testing.T) {
	rising := [][]uint64{{api.None, api.Stale, quiet, math.MaxUint64}, {bits(math.Inf(-1))}, {bits(-math.MaxFloat64)}, {bits(-1)}, {1 | 1<<63}, {0, 1 << 63}, {1}, {bits(1)}, {bits(math.Inf(1))}}
	for i, as := range rising {
		for j, bs := range rising {
			want := 0
			if i < j {
				want = -1
			} else if i > j {
				want = 1
			}
			for _, a := range as {
				for _, b := range bs {
					if got := value.Cmp(a, b); got != want {
						t.Errorf("P4.1: %x %x: %d", a, b, got)
					}
				}
			}
		}
	}
}

// P4.2: the text of bits.
func TestText(t *testing.T) {
	for _, c := range []struct {
		v    uint64
		want string
	}{{bits(0), "0"}, {1 << 63, "-0"}, {bits(1000), "1000"}, {bits(1e21), "1e+21"}, {bits(123456), "123456"}, {bits(1e20), "1e+20"}, {bits(0.1), "0.1"}, {bits(-1.5e-7), "-1.5e-07"}, {1, "5e-324"}, {bits(math.Inf(1)), "+Inf"}, {bits(math.Inf(-1)), "-Inf"}, {api.None, "NaN"}, {api.Stale, "NaN"}, {math.MaxUint64, "NaN"}} {
		if got := value.Text(c.v); got != c.want {
			t.Errorf("P4.2: %x: %s", c.v, got)
		}
	}
}

// P4.2: the bits of a text.
func TestParse(t *testing.T) {
	for _, c := range []struct {
		s    string
		want uint64
	}{
		{"1e3", bits(1000)}, {"0", 0}, {"-0", 1 << 63}, {"-0.0e5", 1 << 63}, {"007", bits(7)}, {"1.", bits(1)}, {".5", bits(.5)}, {"-.5E-1", bits(-.05)}, {"1E+2", bits(100)}, {"1.5e0", bits(1.5)},
		{"NaN", api.None}, {"Inf", bits(math.Inf(1))}, {"+Inf", bits(math.Inf(1))}, {"-Inf", bits(math.Inf(-1))},
		{"1e309", bits(math.Inf(1))}, {"-1e309", bits(math.Inf(-1))}, {"1e99999999999999999999", bits(math.Inf(1))}, {"0e99999999999999999999", 0}, {"1e-99999999999999999999", 0}, {"-1e-400", 1 << 63}, {"5e-324", 1}, {"2e-324", 0}, {"3e-324", 1},
		{"1.7976931348623157e308", bits(math.MaxFloat64)}, {"1.797693134862315807e308", bits(math.MaxFloat64)}, {"1.797693134862315808e308", bits(math.Inf(1))},
		{"9007199254740993", bits(9007199254740992)}, {"9007199254740995", bits(9007199254740996)}, {"9007199254740993." + strings.Repeat("0", 180) + "1", bits(9007199254740994)},
		{strings.Repeat("0", 199) + "1", bits(1)}, {"1e" + strings.Repeat("0", 197) + "1", bits(10)},
	} {
		if got, err := value.Parse(c.s); got != c.want || err != nil {
			t.Errorf("P4.2: %s: %x %v", c.s, got, err)
		}
	}
	for _, s := range []string{"", "-", ".", "-.", "+1", "+0", "--1", "e", "e5", ".e5", "1e", "1e+", "1e-", "1e+-1", "1e1.5", "1.2.3", "1_000", "0x10", "0x1p4", "1p4", " 1", "1 ", "nan", "inf", "INF", "Infinity", "-NaN", "+NaN", "infinity", "1f", "١", strings.Repeat("1", 201), strings.Repeat("0", 201)} {
		if got, err := value.Parse(s); got != 0 || !errors.Is(err, api.BadNumber) {
			t.Errorf("P4.2: %q: %x %v", s, got, err)
		}
	}
}

// P4.2: texts of any signs, held against the grammar, and the floats against exact numbers.
func TestParseByGrammar(t *testing.T) {
	right := regexp.MustCompile(`^-?([0-9]+|[0-9]+\.[0-9]*|[0-9]*\.[0-9]+)([eE][+-]?[0-9]+)?$`)
	r := rand.New(rand.NewSource(1))
	for range 20000 {
		b := make([]byte, 1+r.Intn(7))
		for k := range b {
			b[k] = "0123456789..-+eE_xn"[r.Intn(19)]
		}
		s := string(b)
		got, err := value.Parse(s)
		if (err == nil) != right.MatchString(s) {
			t.Fatalf("P4.2: %q: %x %v", s, got, err)
		}
		if exact, ok := new(big.Rat).SetString(s); err == nil && ok && exact.Sign() != 0 && len(s) < 7 {
			if want, _ := exact.Float64(); bits(want) != got {
				t.Fatalf("P4.2: %q: %x, want %x", s, got, bits(want))
			}
		}
	}
}

// P4.3: the text of bits is read as the same ones.
func TestTextParse(t *testing.T) {
	r := rand.New(rand.NewSource(2))
	for k := range 50000 {
		v := r.Uint64()
		if k%3 == 0 {
			v = bits(float64(r.Intn(100000)) / 1000)
		}
		got, err := value.Parse(value.Text(v))
		want := v
		if f := math.Float64frombits(v); f != f {
			want = api.None
		}
		if err != nil || got != want {
			t.Fatalf("P4.3: %x: %x %v", v, got, err)
		}
	}
	for _, v := range []uint64{api.Stale, api.None, quiet} {
		if got, err := value.Parse(value.Text(v)); got != api.None || err != nil {
			t.Errorf("P4.3: %x: %x %v", v, got, err)
		}
	}
}
