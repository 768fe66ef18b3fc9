package group

import (
	"container/heap"

	"soundings/api"
)

// place is an element's number, and where it stands.
type place struct {
	v  uint64
	at int
}

// ranking is a heap of the best places so far, the worst of them on top.
type ranking struct {
	places []place
	better func(a, b uint64) bool
}

// offer keeps a place, if it is among the n best so far.
func (r *ranking) offer(p place, n int) {
	heap.Push(r, p)
	if r.Len() > n {
		heap.Pop(r)
	}
}

func (r *ranking) Len() int { return len(r.places) }

// Less: the worse one comes first: what is no number, then by numbers, then, of alike ones, the one behind.
func (r *ranking) Less(i, j int) bool {
	a, b := r.places[i], r.places[j]
	switch {
	case (a.v == api.None) != (b.v == api.None):
		return a.v == api.None
	case r.better(a.v, b.v):
		return false
	case r.better(b.v, a.v):
		return true
	}
	return a.at > b.at
}

func (r *ranking) Swap(i, j int) { r.places[i], r.places[j] = r.places[j], r.places[i] }

func (r *ranking) Push(x any) {
	if p, ok := x.(place); ok {
		r.places = append(r.places, p)
	}
}

func (r *ranking) Pop() any {
	last := len(r.places) - 1
	p := r.places[last]
	r.places = r.places[:last]
	return p
}
