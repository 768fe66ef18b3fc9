package script_test

import (
	"errors"
	"math"
	"math/rand"
	"regexp"
	"slices"
	"sort"
	"strings"
	"testing"

	"soundings/api"
	"soundings/parse"
	"soundings/script"
	"soundings/tree"
)

// What follows reckons by the chapters' words, as plainly as can be, with none of the layers: labels are maps, windows are gone through from end to end, pairs are sought among all.

type tags map[string]string

type elem struct {
	l tags
	v float64
}

type points struct {
	l tags
	t []int64
	v []uint64
}

type model struct {
	all     []*points
	t, back int64
	most    int
	touched int
}

func (l tags) sorted() []string {
	var names []string
	for n := range l {
		names = append(names, n)
	}
	sort.Strings(names)
	var out []string
	for _, n := range names {
		out = append(out, n, l[n])
	}
	return out
}

func (l tags) is(o tags) bool { return slices.Equal(l.sorted(), o.sorted()) }

func (l tags) only(so func(name string) bool) tags {
	out := tags{}
	for n, v := range l {
		if so(n) {
			out[n] = v
		}
	}
	return out
}

func (l tags) nameless() tags { return l.only(func(n string) bool { return n != "__name__" }) }

func (m *model) append(x api.Add) {
	l := tags{}
	for _, y := range x.Labels {
		if _, twice := l[y.Name]; twice || !regexp.MustCompile(`^[a-zA-Z_][a-zA-Z_0-9]*$`).MatchString(y.Name) {
			return
		}
		l[y.Name] = y.Value
	}
	if len(l) == 0 || x.T > 1<<50 || x.T < -1<<50 {
		return
	}
	if f := math.Float64frombits(x.V); f != f && x.V != api.Stale {
		x.V = api.None
	}
	for _, p := range m.all {
		if p.l.is(l) {
			if p.t[len(p.t)-1] < x.T {
				p.t, p.v = append(p.t, x.T), append(p.v, x.V)
			}
			return
		}
	}
	m.all = append(m.all, &points{l, []int64{x.T}, []uint64{x.V}})
}

// inOrder: Twice, if two have the same labels.
func inOrder(v []elem) []elem {
	sort.Slice(v, func(i, j int) bool { return slices.Compare(v[i].l.sorted(), v[j].l.sorted()) < 0 })
	for k := range v {
		if k > 0 && v[k].l.is(v[k-1].l) {
			panic(api.Twice)
		}
	}
	return v
}

func (m *model) when(e api.Expr) int64 {
	t := m.t
	if e.HasAt {
		t = e.At
	}
	if t -= e.Off; t > 1<<50 || t < -1<<50 {
		panic(api.BadTime)
	}
	return t
}

func (m *model) picked(e api.Expr) []*points {
	var out []*points
	for _, p := range m.all {
		ok := e.S == "" || p.l["__name__"] == e.S
		for _, x := range e.Ms {
			like := regexp.MustCompile("^(?s:" + x.Value + ")$").MatchString(p.l[x.Name])
			ok = ok && []bool{false, p.l[x.Name] == x.Value, p.l[x.Name] != x.Value, like, !like}[x.Op]
		}
		if ok {
			out = append(out, p)
		}
	}
	return out
}

func (m *model) touch(n int) {
	if m.touched += n; m.touched > m.most {
		panic(api.Limit)
	}
}

func (m *model) pick(e api.Expr) []elem {
	t := m.when(e)
	var out []elem
	for _, p := range m.picked(e) {
		found := uint64(api.Stale)
		for k := range p.t {
			if p.t[k] <= t {
				found = api.Stale
				if p.t[k] > t-m.back {
					found = p.v[k]
				}
			}
		}
		if found != api.Stale {
			out = append(out, elem{p.l, math.Float64frombits(found)})
		}
	}
	m.touch(len(out))
	return inOrder(out)
}

func (m *model) grow(e api.Expr) []elem {
	kid := e.Kids[0]
	t := m.when(kid)
	var out []elem
	n := 0
	for _, p := range m.picked(kid) {
		var ts, vs []float64
		for k := range p.t {
			if p.t[k] <= t && p.t[k] > t-kid.Wide && p.v[k] != api.Stale {
				ts, vs = append(ts, float64(p.t[k])), append(vs, math.Float64frombits(p.v[k]))
			}
		}
		n += len(ts)
		if len(ts) >= 2 {
			out = append(out, elem{p.l.nameless(), growth(e.S, ts, vs, float64(t-kid.Wide), float64(t))})
		}
	}
	m.touch(n)
	return inOrder(out)
}

func growth(name string, ts, vs []float64, start, end float64) float64 {
	last := len(ts) - 1
	g := vs[last] - vs[0]
	for k := 1; k <= last && name != "delta"; k++ {
		if vs[k] < vs[k-1] {
			g += vs[k-1]
		}
	}
	begin, rest, span := (ts[0]-start)/1000, (end-ts[last])/1000, (ts[last]-ts[0])/1000
	mean := span / float64(last)
	if name != "delta" && g > 0 && vs[0] >= 0 {
		share := vs[0] / g
		if zero := span * share; zero < begin {
			begin = zero
		}
	}
	most := mean * 1.1
	long := span
	for _, gap := range []float64{begin, rest} {
		if !(gap < most) {
			gap = mean / 2
		}
		long += gap
	}
	q := long / span
	if name == "rate" {
		q /= (end - start) / 1000
	}
	return g * q
}

// value is a number, if v is nil.
type result struct {
	f        float64
	v        []elem
	isVector bool
}

func (m *model) of(e api.Expr) result {
	switch e.Kind {
	case api.Num:
		return result{f: math.Float64frombits(e.V)}
	case api.Pick:
		return result{v: m.pick(e), isVector: true}
	case api.Less:
		x := m.of(e.Kids[0])
		return x.each(func(f float64) float64 { return -f })
	case api.Group:
		return m.group(e)
	case api.Pair:
		a := m.of(e.Kids[0])
		return pair(e, a, m.of(e.Kids[1]))
	}
	switch e.S {
	case "time":
		return result{f: float64(m.t) / 1000}
	case "vector":
		return result{v: []elem{{tags{}, m.of(e.Kids[0]).f}}, isVector: true}
	case "abs":
		return m.of(e.Kids[0]).each(math.Abs)
	}
	return result{v: m.grow(e), isVector: true}
}

func (x result) each(do func(float64) float64) result {
	x.f = do(x.f)
	var out []elem
	for _, y := range x.v {
		out = append(out, elem{y.l.nameless(), do(y.v)})
	}
	x.v = inOrder(out)
	return x
}

func (m *model) group(e api.Expr) result {
	k := 0.0
	if len(e.Kids) == 2 {
		k = m.of(e.Kids[0]).f
	}
	var out []elem
	left := m.of(e.Kids[len(e.Kids)-1]).v
	for len(left) > 0 {
		of := func(l tags) tags {
			return l.only(func(n string) bool {
				return e.How == api.By && slices.Contains(e.Names, n) || e.How == api.Without && !slices.Contains(e.Names, n) && n != "__name__"
			})
		}
		var one, others []elem
		for _, x := range left {
			if of(x.l).is(of(left[0].l)) {
				one = append(one, x)
			} else {
				others = append(others, x)
			}
		}
		if strings.HasSuffix(e.S, "k") {
			out = append(out, best(e.S, k, one)...)
		} else {
			out = append(out, elem{of(left[0].l), together(e.S, one)})
		}
		left = others
	}
	return result{v: inOrder(out), isVector: true}
}

func together(name string, one []elem) float64 {
	sum, least, most := one[0].v, one[0].v, one[0].v
	for _, x := range one[1:] {
		sum += x.v
		if x.v < least || least != least {
			least = x.v
		}
		if x.v > most || most != most {
			most = x.v
		}
	}
	n := float64(len(one))
	return map[string]float64{"sum": sum, "avg": sum / n, "count": n, "min": least, "max": most}[name]
}

func best(name string, k float64, one []elem) []elem {
	sort.SliceStable(one, func(i, j int) bool {
		a, b := one[i].v, one[j].v
		return a == a && (b != b || name == "topk" && a > b || name == "bottomk" && a < b)
	})
	n := 0
	for n < len(one) && float64(n+1) <= k {
		n++
	}
	return one[:n]
}

func sign(op int, a, b float64) float64 {
	so := []bool{false, a == b, a != b, a > b, a < b, a >= b, a <= b}
	if op < len(so) {
		if so[op] {
			return 1
		}
		return 0
	}
	return []float64{a + b, a - b, a * b, a / b, math.Mod(a, b)}[op-api.Plus]
}

func pair(e api.Expr, a, b result) result {
	if !a.isVector && !b.isVector {
		return result{f: sign(e.Op, a.f, b.f)}
	}
	var out []elem
	keep := func(l tags, x, y, stays float64) {
		n := sign(e.Op, x, y)
		if e.Op >= api.Plus || e.Bool {
			if e.How != api.By {
				l = l.nameless()
			}
			out = append(out, elem{l, n})
		} else if n == 1 {
			out = append(out, elem{l, stays})
		}
	}
	switch {
	case a.isVector && b.isVector:
		joined(e, a.v, b.v, keep)
	case a.isVector:
		for _, x := range a.v {
			keep(x.l, x.v, b.f, x.v)
		}
	default:
		for _, x := range b.v {
			keep(x.l, a.f, x.v, x.v)
		}
	}
	return result{v: inOrder(out), isVector: true}
}

func joined(e api.Expr, a, b []elem, keep func(l tags, x, y, stays float64)) {
	sig := func(l tags) tags {
		return l.only(func(n string) bool {
			if e.How == api.By {
				return slices.Contains(e.Names, n)
			}
			return n != "__name__" && !slices.Contains(e.Names, n)
		})
	}
	for i, x := range a {
		for j, y := range b {
			if !sig(x.l).is(sig(y.l)) {
				continue
			}
			for k, z := range a {
				if k != i && sig(z.l).is(sig(x.l)) {
					panic(api.Many)
				}
			}
			for k, z := range b {
				if k != j && sig(z.l).is(sig(x.l)) {
					panic(api.Many)
				}
			}
			l := sig(x.l)
			if e.How != api.By {
				l = x.l.only(func(n string) bool { return !slices.Contains(e.Names, n) })
			}
			keep(l, x.v, y.v, x.v)
		}
	}
}

// byModel: what a question comes to, told as series are; or a code.
func byModel(in []api.Add, a api.Ask, e api.Expr) (text string, touched int, code api.Code) {
	m := &model{back: a.Back, most: a.Most}
	for _, x := range in {
		m.append(x)
	}
	defer func() {
		if x := recover(); x != nil {
			text, touched, code = "", 0, x.(api.Code)
		}
	}()
	var out []api.Series
	var lists []tags
	add := func(l tags, f float64) {
		at := slices.IndexFunc(lists, l.is)
		if at < 0 {
			at = len(lists)
			lists = append(lists, l)
			out = append(out, api.Series{})
			s := l.sorted()
			for k := 0; k < len(s); k += 2 {
				out[at].Labels = append(out[at].Labels, api.Label{Name: s[k], Value: s[k+1]})
			}
		}
		out[at].Points = append(out[at].Points, api.Point{T: m.t, V: bits(f)})
	}
	for m.t = a.Start; m.t <= a.End; m.t += a.Step {
		x := m.of(e)
		if !x.isVector {
			add(tags{}, x.f)
		}
		for _, y := range x.v {
			add(y.l, y.v)
		}
	}
	sort.SliceStable(out, func(i, j int) bool {
		return slices.CompareFunc(out[i].Labels, out[j].Labels, func(x, y api.Label) int {
			return slices.Compare([]string{x.Name, x.Value}, []string{y.Name, y.Value})
		}) < 0
	})
	return told(out), m.touched, 0
}

func someNumber(r *rand.Rand, deep int) api.Expr {
	if deep > 0 && r.Intn(2) == 0 {
		if r.Intn(3) == 0 {
			return api.Expr{Kind: api.Less, Kids: []api.Expr{someNumber(r, deep-1)}}
		}
		e := api.Expr{Kind: api.Pair, Op: 1 + r.Intn(11), Kids: []api.Expr{someNumber(r, deep-1), someNumber(r, deep-1)}}
		e.Bool = e.Op <= api.Le
		return e
	}
	if r.Intn(3) == 0 {
		return api.Expr{Kind: api.Call, S: "time"}
	}
	return api.Expr{Kind: api.Num, V: []uint64{0, bits(1), bits(2), bits(0.5), bits(3), api.None, bits(math.Inf(1))}[r.Intn(7)]}
}

func somePick(r *rand.Rand) api.Expr {
	e := api.Expr{Kind: api.Pick, S: []string{"x", "y", "x", "y", "", "nothing"}[r.Intn(6)]}
	for range r.Intn(5) / 3 {
		e.Ms = append(e.Ms, api.Matcher{Op: 1 + r.Intn(4), Name: []string{"job", "z", "__name__"}[r.Intn(3)], Value: []string{"a", "", "a|b", ".*", "[bc]?"}[r.Intn(5)]})
	}
	if r.Intn(4) == 0 {
		e.Off = int64(r.Intn(4000) - 2000)
	}
	if r.Intn(5) == 0 {
		e.HasAt, e.At = true, int64(r.Intn(12))*1000
	}
	if r.Intn(60) == 0 {
		e.HasAt, e.At, e.Off = true, -1125899906842000, 625000
	}
	return e
}

func someVector(r *rand.Rand, deep int) api.Expr {
	kind := r.Intn(9)
	if deep == 0 {
		kind = r.Intn(3)
	}
	how := func(e *api.Expr) {
		if r.Intn(2) == 0 {
			e.How, e.Names = 1+r.Intn(2), []string{"job", "z", "__name__"}[r.Intn(2):][:r.Intn(2)]
		}
	}
	var e api.Expr
	switch kind {
	case 0:
		return somePick(r)
	case 1:
		kid := somePick(r)
		kid.Wide = 1 + int64(r.Intn(5000))
		return api.Expr{Kind: api.Call, S: []string{"rate", "increase", "delta"}[r.Intn(3)], Kids: []api.Expr{kid}}
	case 2:
		return api.Expr{Kind: api.Call, S: "vector", Kids: []api.Expr{someNumber(r, deep)}}
	case 3:
		return api.Expr{Kind: api.Call, S: "abs", Kids: []api.Expr{someVector(r, deep-1)}}
	case 4:
		return api.Expr{Kind: api.Less, Kids: []api.Expr{someVector(r, deep-1)}}
	case 5:
		e = api.Expr{Kind: api.Group, S: []string{"sum", "avg", "min", "max", "count"}[r.Intn(5)], Kids: []api.Expr{someVector(r, deep-1)}}
		how(&e)
	case 6:
		e = api.Expr{Kind: api.Group, S: []string{"topk", "bottomk"}[r.Intn(2)], Kids: []api.Expr{someNumber(r, 1), someVector(r, deep-1)}}
		how(&e)
	case 7:
		e = api.Expr{Kind: api.Pair, Op: 1 + r.Intn(11), Kids: []api.Expr{someVector(r, deep-1), someNumber(r, 1)}}
		e.Bool = e.Op <= api.Le && r.Intn(2) == 0
		if r.Intn(2) == 0 {
			slices.Reverse(e.Kids)
		}
	default:
		e = api.Expr{Kind: api.Pair, Op: 1 + r.Intn(11), Kids: []api.Expr{someVector(r, deep-1), someVector(r, deep-1)}}
		e.Bool = e.Op <= api.Le && r.Intn(2) == 0
		how(&e)
	}
	return e
}

// P1: any samples and any question: what the chapters reckon, bit by bit, or the one error. P3: with as many samples as it touches it is answered, with fewer it is Limit.
func TestWhole(t *testing.T) {
	r := rand.New(rand.NewSource(3))
	seen := map[api.Code]int{}
	for range 12000 {
		in := someSamples(r, 30)
		e := someVector(r, r.Intn(4))
		if r.Intn(8) == 0 {
			e = someNumber(r, 3)
		}
		text, err := tree.Print(e)
		if err != nil {
			t.Fatal(e, err)
		}
		a := api.Ask{Query: text, Start: int64(r.Intn(3000)), Step: int64(1 + r.Intn(4000)), Back: int64(1 + r.Intn(3000)), Most: 20000}
		a.End = a.Start + a.Step*int64(r.Intn(4)) + int64(r.Intn(int(a.Step)))
		if r.Intn(6) == 0 {
			a.Most = r.Intn(20)
		}
		want, touched, code := byModel(in, a, e)
		_, got, err := script.Run(in, a)
		seen[code]++
		if code != 0 {
			if !errors.Is(err, code) || len(got) != 0 {
				t.Fatalf("P1: %s: %s %v, want %v", text, told(got), err, code)
			}
			continue
		}
		if err != nil || told(got) != want {
			t.Fatalf("P1: %s of %v, %v: %s %v, want %s", text, in, a, told(got), err, want)
		}
		a.Most = touched
		if _, again, err := script.Run(in, a); err != nil || told(again) != want {
			t.Fatalf("P3: %s with %d: %v", text, touched, err)
		}
		a.Most = touched - 1
		if _, again, err := script.Run(in, a); touched > 0 && (!errors.Is(err, api.Limit) || len(again) != 0) {
			t.Fatalf("P3: %s with %d: %v", text, touched-1, err)
		}
	}
	for _, c := range []api.Code{0, api.Twice, api.Many, api.Limit, api.BadTime} {
		if seen[c] < 20 {
			t.Errorf("only %d of %v", seen[c], c)
		}
	}
}

// P2: each right tree has a text that is that tree, and that is told the same with blank and parentheses about it.
func TestTextAndTree(t *testing.T) {
	r := rand.New(rand.NewSource(4))
	for range 3000 {
		e := someVector(r, r.Intn(5))
		text, err := tree.Print(e)
		if err != nil {
			t.Fatal(e, err)
		}
		for _, s := range []string{text, " (" + text + "\n) # end", strings.ReplaceAll(text, " ", "\t ")} {
			got, err := parse.Parse(s)
			if err != nil {
				t.Fatalf("P2: %s: %v", s, err)
			}
			if again, err := tree.Print(got); err != nil || again != text {
				t.Fatalf("P2: %s: %s %v", s, again, err)
			}
		}
	}
}

// P4: groups are as many as there are unlike labels of them, and hold all elements.
func TestGroupsByHand(t *testing.T) {
	r := rand.New(rand.NewSource(5))
	for range 500 {
		in := someSamples(r, 40)
		at := int64(r.Intn(10000))
		ask := func(query string) []api.Series {
			_, out, err := script.Run(in, api.Ask{Query: query, Start: at, End: at, Step: 1, Back: 3000, Most: 1000})
			if err != nil {
				t.Fatal(query, err)
			}
			return out
		}
		all := ask("{}")
		for query, of := range map[string]func(n string) bool{
			"count by (job) ({})": func(n string) bool { return n == "job" }, "count without (job) ({})": func(n string) bool { return n != "job" && n != "__name__" },
			"count by (job, __name__) ({})": func(n string) bool { return n == "job" || n == "__name__" }, "count({})": func(n string) bool { return false },
		} {
			unlike := map[string]int{}
			for _, x := range all {
				l := tags{}
				for _, y := range x.Labels {
					l[y.Name] = y.Value
				}
				unlike[strings.Join(l.only(of).sorted(), " ")]++
			}
			got := ask(query)
			if len(got) != len(unlike) {
				t.Fatalf("P4: %s: %s of %s", query, told(got), told(all))
			}
			for _, x := range got {
				l := tags{}
				for _, y := range x.Labels {
					l[y.Name] = y.Value
				}
				if n := unlike[strings.Join(l.sorted(), " ")]; x.Points[0].V != bits(float64(n)) {
					t.Fatalf("P4: %s: %s of %s", query, told(got), told(all))
				}
			}
		}
	}
}
