package flips

import (
	"container/heap"

	"parquet/api"
)

// queue is a heap of edges, with A less than B: the first one by A, then by B, comes out first.
type queue []api.Seg

func (l queue) Len() int           { return len(l) }
func (l queue) Less(i, k int) bool { return compareSegs(l[i], l[k]) < 0 }
func (l queue) Swap(i, k int)      { l[i], l[k] = l[k], l[i] }

func (l *queue) Push(x any) {
	if s, ok := x.(api.Seg); ok {
		*l = append(*l, s)
	}
}

func (l *queue) Pop() any {
	last := len(*l) - 1
	s := (*l)[last]
	*l = (*l)[:last]
	return s
}

// sweep is a net whose bad edges are flipped. All edges that may be bad are ahead; those that would be, but for an edge between their third points, are held back by that one.
type sweep struct {
	net
	ahead queue
	held  map[api.Seg][]api.Seg
}

// settle flips the first bad edge as long as there is one, and returns how many it flipped.
//
// It ends: laid over the points of a paraboloid, the triangles lie lower after each flip, so no mesh comes back.
func settle(n net) int {
	w := sweep{net: n, held: map[api.Seg][]api.Seg{}}
	for s := range n.third {
		if s.A < s.B {
			w.ahead = append(w.ahead, s)
		}
	}
	heap.Init(&w.ahead)
	count := 0
	for w.ahead.Len() > 0 {
		s, _ := heap.Pop(&w.ahead).(api.Seg)
		if w.mend(s) {
			count++
		}
	}
	return count
}

// mend flips s, and tells so, if it is bad. If not, it is not ahead any more, until a flip changes what it has around it.
func (w *sweep) mend(s api.Seg) bool {
	q, ok := w.quad(s)
	if !ok || w.stays(s) || !w.pierced(q) {
		return false
	}
	if across := q.turned().edge(); w.joined(across) {
		w.held[ordered(across)] = append(w.held[ordered(across)], s)
		return false
	}
	w.flip(q)
	w.follow(q)
	return true
}

// follow puts ahead what the flip of q may have made bad: the edges around q, which have another triangle, and those that were held by its edge. The new edge is not bad.
func (w *sweep) follow(q quad) {
	for i, p := range q {
		heap.Push(&w.ahead, ordered(api.Seg{A: p, B: q[(i+1)%len(q)]}))
	}
	gone := ordered(q.edge())
	for _, s := range w.held[gone] {
		heap.Push(&w.ahead, s)
	}
	delete(w.held, gone)
}
