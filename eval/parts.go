package eval

import (
	"math"
	"slices"

	"soundings/api"
	"soundings/group"
	"soundings/join"
	"soundings/label"
	"soundings/pick"
	"soundings/rate"
	"soundings/value"
	"soundings/vector"
)

// sign is the bit of a float that tells whether it is below 0.
const sign = 1 << 63

func (r *run) num(e api.Expr) api.Value { return scalar(e.V) }

func (r *run) time(e api.Expr) api.Value { return scalar(math.Float64bits(float64(r.t) / 1000)) }

func (r *run) vector(e api.Expr) api.Value {
	return elements([]api.Elem{{V: r.of(e.Kids[0]).V}}, nil)
}

// when is a pick's time.
func (r *run) when(e api.Expr) int64 {
	t := r.t
	if e.HasAt {
		t = e.At
	}
	t -= e.Off
	if !isTime(t) {
		must(api.BadTime)
	}
	return t
}

// where: the places of a pick's series.
func (r *run) where(e api.Expr) []int {
	if e.S == "" {
		return pick.Where(r.series, e.Ms)
	}
	named := []api.Matcher{{Op: api.Is, Name: api.Name, Value: e.S}}
	return pick.Where(r.series, slices.Concat(named, e.Ms))
}

func (r *run) pick(e api.Expr) api.Value {
	t := r.when(e)
	var out []api.Elem
	for _, k := range r.where(e) {
		if v, ok := pick.At(r.series[k].Points, t, r.back); ok {
			out = append(out, api.Elem{Labels: slices.Clone(r.series[k].Labels), V: v})
		}
	}
	r.touch(len(out))
	return elements(out, nil)
}

func nameless(l []api.Label) []api.Label { return label.Drop(l, []string{api.Name}) }

// growth counts all points of the pick ahead of any growth: too many go ahead of two of the same labels.
func (r *run) growth(e api.Expr) api.Value {
	kid := e.Kids[0]
	t := r.when(kid)
	places := r.where(kid)
	windows := make([][]api.Point, 0, len(places))
	n := 0
	for _, k := range places {
		w := pick.Window(r.series[k].Points, t, kid.Wide)
		windows = append(windows, w)
		n += len(w)
	}
	r.touch(n)
	var out []api.Elem
	for k, w := range windows {
		if v, ok := rate.Grow(e.S, w, t-kid.Wide, t); ok {
			out = append(out, api.Elem{Labels: nameless(r.series[places[k]].Labels), V: v})
		}
	}
	return elements(vector.Make(out))
}

func (r *run) abs(e api.Expr) api.Value {
	return each(r.of(e.Kids[0]), func(v uint64) uint64 { return v &^ sign })
}

func (r *run) less(e api.Expr) api.Value {
	turned := func(v uint64) uint64 { return value.Norm(v ^ sign) }
	x := r.of(e.Kids[0])
	if x.Kind == api.Scalar {
		return scalar(turned(x.V))
	}
	return each(x, turned)
}

// each: what comes of each element of a vector, under its labels without the name.
func each(x api.Value, change func(v uint64) uint64) api.Value {
	out := make([]api.Elem, 0, len(x.Elems))
	for _, elem := range x.Elems {
		out = append(out, api.Elem{Labels: nameless(elem.Labels), V: change(elem.V)})
	}
	return elements(vector.Make(out))
}

func (r *run) group(e api.Expr) api.Value {
	k := uint64(0)
	if len(e.Kids) == 2 {
		k = r.of(e.Kids[0]).V
	}
	x := r.of(e.Kids[len(e.Kids)-1])
	return elements(group.Apply(e.S, e.How, e.Names, k, x.Elems))
}

// pair goes down to the left in a loop, as that may be far.
func (r *run) pair(e api.Expr) api.Value {
	var down []api.Expr
	for ; e.Kind == api.Pair; e = e.Kids[0] {
		down = append(down, e)
	}
	left := r.of(e)
	for k := len(down) - 1; k >= 0; k-- {
		left = held(down[k], left, r.of(down[k].Kids[1]))
	}
	return left
}

// held: what a pair comes to, of what its kids came to.
func held(e api.Expr, a, b api.Value) api.Value {
	switch {
	case a.Kind == api.Vector && b.Kind == api.Vector:
		return elements(join.Join(e.Op, e.Bool, e.How, e.Names, a.Elems, b.Elems))
	case a.Kind == api.Vector:
		return elements(join.Side(e.Op, e.Bool, a.Elems, b.V, false))
	case b.Kind == api.Vector:
		return elements(join.Side(e.Op, e.Bool, b.Elems, a.V, true))
	}
	v, _ := join.Number(e.Op, a.V, b.V)
	return scalar(v)
}
