package span_test

import (
	"errors"
	"math"
	"math/big"
	"math/rand"
	"regexp"
	"strconv"
	"strings"
	"testing"

	"soundings/api"
	"soundings/span"
)

// P7.1: how long spans are.
func TestParse(t *testing.T) {
	for _, c := range []struct {
		s    string
		want int64
	}{
		{"1h30m", 5400000}, {"90m", 5400000}, {"1ms", 1}, {"1m1ms", 60001}, {"1m1s", 61000}, {"1s1ms", 1001}, {"0s", 0}, {"0y0ms", 0}, {"0ms", 0}, {"007s", 7000},
		{"1y", 31536000000}, {"1w", 604800000}, {"1d", 86400000}, {"1h", 3600000}, {"1m", 60000}, {"1s", 1000}, {"1y1w1d1h1m1s1ms", 31536000000 + 604800000 + 86400000 + 3600000 + 60000 + 1000 + 1},
		{"35184372088832ms", 1 << 45}, {"1115y35w6d12h41m28s832ms", 1 << 45}, {strings.Repeat("0", 198) + "5s", 5000}, {strings.Repeat("0", 199) + "s", 0},
	} {
		if got, err := span.Parse(c.s); got != c.want || err != nil {
			t.Errorf("P7.1: %s: %d %v", c.s, got, err)
		}
	}
	for _, s := range []string{
		"", "5", "m", "s5", "5m5", "1s1m", "1m1m", "1ms1s", "1ms1ms", "1mss", "1sm", "1 s", " 1s", "1s ", "-1s", "+1s", "1.5s", "1e3s", "1M", "1us", "1S", "0", "1h-1m", "１s", "1x", "1yw",
		"35184372088833ms", "1115y35w6d12h41m28s833ms", "1116y", "99999999999999999999y", "9223372036854775808ms", "18446744073709551616ms", "18446744073709551617s", "584942417y", strings.Repeat("9", 199) + "s", strings.Repeat("0", 200) + "s",
	} {
		if got, err := span.Parse(s); got != 0 || !errors.Is(err, api.BadNumber) {
			t.Errorf("P7.1: %q: %d %v", s, got, err)
		}
	}
}

// P7.1: texts of any signs, held against the grammar, and sums against exact ones.
func TestParseByGrammar(t *testing.T) {
	right := regexp.MustCompile(`^([0-9]+y)?([0-9]+w)?([0-9]+d)?([0-9]+h)?([0-9]+m)?([0-9]+s)?([0-9]+ms)?$`)
	sizes := []int64{31536000000, 604800000, 86400000, 3600000, 60000, 1000, 1}
	r := rand.New(rand.NewSource(1))
	for range 60000 {
		var b strings.Builder
		for range 1 + r.Intn(4) {
			if r.Intn(10) > 0 {
				b.WriteString(strconv.FormatInt(r.Int63n(1<<r.Intn(48)+1), 10))
			}
			if r.Intn(10) > 0 {
				b.WriteString([]string{"y", "w", "d", "h", "m", "s", "ms"}[r.Intn(7)])
			}
		}
		s := b.String()
		found := right.FindStringSubmatch(s)
		sum := new(big.Int)
		for k, size := range sizes {
			if found != nil && found[k+1] != "" {
				n, _ := new(big.Int).SetString(strings.TrimRight(found[k+1], "ywdhms"), 10)
				sum.Add(sum, n.Mul(n, big.NewInt(size)))
			}
		}
		ok := found != nil && s != "" && sum.Cmp(big.NewInt(api.MaxSpan)) <= 0
		got, err := span.Parse(s)
		if (err == nil) != ok || ok && got != sum.Int64() {
			t.Fatalf("P7.1: %q: %d %v", s, got, err)
		}
	}
}

// P7.2: the text of a sum.
func TestText(t *testing.T) {
	for _, c := range []struct {
		v    int64
		want string
	}{{0, "0s"}, {1, "1ms"}, {1000, "1s"}, {5400000, "1h30m"}, {60001, "1m1ms"}, {31536000000, "1y"}, {31535999999, "52w23h59m59s999ms"}, {1 << 45, "1115y35w6d12h41m28s832ms"}, {604800000, "1w"}, {86400000 * 8, "1w1d"}} {
		got, err := span.Text(c.v)
		if got != c.want || err != nil {
			t.Errorf("P7.2: %d: %s %v", c.v, got, err)
		}
	}
	for _, v := range []int64{-1, 1<<45 + 1, math.MaxInt64, math.MinInt64} {
		if got, err := span.Text(v); got != "" || !errors.Is(err, api.BadNumber) {
			t.Errorf("P7.2: %d: %s %v", v, got, err)
		}
	}
}

// P7.3: the text of a sum is parsed to it.
func TestTextParse(t *testing.T) {
	r := rand.New(rand.NewSource(2))
	for k := range 50000 {
		v := r.Int63n(1<<uint(r.Intn(46)) + 1)
		if k < 100 {
			v = int64(k) * 500
		}
		s, err := span.Text(v)
		if err != nil {
			t.Fatalf("P7.2: %d: %v", v, err)
		}
		if got, err := span.Parse(s); got != v || err != nil {
			t.Fatalf("P7.3: %d: %s: %d %v", v, s, got, err)
		}
	}
}
