package bpe

import (
	"iter"

	"tessera/chain"
	"tessera/heap"
	"tessera/model"
)

// row is ids one behind the other, of which two neighbours at a time become one.
type row struct {
	model *model.Model
	ids   []int            // by places; what two became stands at the left one's place, the right one's is cut out
	chain *chain.Chain     // the places at which an id stands
	pairs *heap.Heap[pair] // all neighbours that have a merge, and pairs that are out of date
}

// pair is two neighbours' places, and the rank and the Id of their merge.
type pair struct {
	rank, id, left, right int
}

// newRow answers the row of ids, which it keeps and changes.
func newRow(m *model.Model, ids []int) *row {
	r := &row{model: m, ids: ids, chain: chain.New(len(ids))}
	var l []pair
	for at := range ids {
		if p, ok := r.pairAt(at); ok {
			l = append(l, p)
		}
	}
	r.pairs = heap.Of(isAhead, l...)
	return r
}

// joins hands out the pairs that are joined, each one when it was.
func (r *row) joins() iter.Seq[pair] {
	return func(yield func(pair) bool) {
		for p, more := r.pairs.Pop(); more; p, more = r.pairs.Pop() {
			if now, ok := r.pairAt(p.left); !ok || now != p {
				continue // out of date: one of the two was joined with its other neighbour
			}
			r.join(p)
			if !yield(p) {
				return
			}
		}
	}
}

// left answers the ids that stand in the row.
func (r *row) left() []int {
	l := make([]int, 0, r.chain.Len())
	for at := range r.chain.All() {
		l = append(l, r.ids[at])
	}
	return l
}

// join makes one of the two of p.
func (r *row) join(p pair) {
	r.ids[p.left] = p.id
	r.chain.Cut(p.right)
	r.pushAt(r.chain.Prev(p.left))
	r.pushAt(p.left)
}

// pushAt lays the pair whose left one stands at the place at among the others, if there is one.
func (r *row) pushAt(at int) {
	if p, ok := r.pairAt(at); ok {
		r.pairs.Push(p)
	}
}

// pairAt answers the pair whose left one stands at the place at, and whether there is one that has a merge.
func (r *row) pairAt(at int) (pair, bool) {
	next := r.chain.Next(at)
	if next < 0 {
		return pair{}, false
	}
	rank, id, ok := r.model.Merge(r.ids[at], r.ids[next])
	return pair{rank, id, at, next}, ok
}

// isAhead tells whether a is joined ahead of b: by the lower rank, of one rank by the place further left.
func isAhead(a, b pair) bool {
	if a.rank != b.rank {
		return a.rank < b.rank
	}
	return a.left < b.left
}
