package flips

import (
	"slices"

	"parquet/api"
	"parquet/fill"
	"parquet/pred"
)

// quad is the four points of two triangles that share an edge, counterclockwise: one end of the edge, the third point on its right, its other end, the third point on its left.
type quad [4]int

// edge leads from the first point to the one across.
func (q quad) edge() api.Seg {
	return api.Seg{A: q[0], B: q[2]}
}

// turned is q from its second point on: as it is after a flip.
func (q quad) turned() quad {
	return quad{q[1], q[2], q[3], q[0]}
}

// net is a mesh by its edges: each one, in the direction in which a triangle has it, with the third point of that triangle.
type net struct {
	p     []api.Point
	s     []api.Seg
	third map[api.Seg]int
}

func (n net) lay(t api.Tri) {
	n.third[api.Seg{A: t.A, B: t.B}] = t.C
	n.third[api.Seg{A: t.B, B: t.C}] = t.A
	n.third[api.Seg{A: t.C, B: t.A}] = t.B
}

// quad returns the two triangles at the edge s; false if there are not two.
func (n net) quad(s api.Seg) (quad, bool) {
	left, isLeft := n.third[s]
	right, isRight := n.third[reverse(s)]
	return quad{s.A, right, s.B, left}, isLeft && isRight
}

// joined tells whether a triangle has the edge s, in either direction.
func (n net) joined(s api.Seg) bool {
	_, isLeft := n.third[s]
	_, isRight := n.third[reverse(s)]
	return isLeft || isRight
}

func (n net) stays(s api.Seg) bool {
	_, found := slices.BinarySearchFunc(n.s, ordered(s), compareSegs)
	return found
}

// free tells whether the edge of q does not stay, and the one that would replace it is not there. It may be there already where triangles overlap, which fill.Check does not refuse.
func (n net) free(q quad) bool {
	return !n.stays(q.edge()) && !n.joined(q.turned().edge())
}

func (n net) convex(q quad) bool {
	return pred.Convex(n.p[q[0]], n.p[q[1]], n.p[q[2]], n.p[q[3]])
}

// pierced tells whether the point on the right of the edge of q is inside the circumcircle of the triangle on its left, and so the other way round.
func (n net) pierced(q quad) bool {
	return pred.InCircle(n.p[q[0]], n.p[q[2]], n.p[q[3]], n.p[q[1]]) > 0
}

// may returns the two triangles at the edge s, and whether it may be flipped.
func (n net) may(s api.Seg) (quad, bool) {
	q, ok := n.quad(s)
	return q, ok && n.free(q) && n.convex(q)
}

func (n net) bad(s api.Seg) bool {
	q, ok := n.quad(s)
	return ok && n.free(q) && n.pierced(q)
}

// halves returns the two triangles of q.
func (n net) halves(q quad) [2]api.Tri {
	right, _ := fill.Tri(n.p, q[0], q[1], q[2])
	left, _ := fill.Tri(n.p, q[2], q[3], q[0])
	return [2]api.Tri{right, left}
}

// flip replaces the triangles of q, which is convex, by the other two.
func (n net) flip(q quad) {
	delete(n.third, q.edge())
	delete(n.third, reverse(q.edge()))
	for _, t := range n.halves(q.turned()) {
		n.lay(t)
	}
}

// triangles returns all triangles, sorted. Each is found at the edge that begins at its smallest point.
func (n net) triangles() []api.Tri {
	var l []api.Tri
	for s, c := range n.third {
		if s.A < s.B && s.A < c {
			l = append(l, api.Tri{A: s.A, B: s.B, C: c})
		}
	}
	slices.SortFunc(l, compareTris)
	return l
}
