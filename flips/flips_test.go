package flips_test

import (
	"math"
	"math/rand/v2"
	"slices"
	"testing"

	"parquet/api"
	"parquet/fill"
	"parquet/flips"
	"parquet/valid"
)

// The calls that the chapter lists, with their exact signatures: a change of one does not compile.
var (
	_ func(api.Mesh, int, int) (int, int, bool)      = flips.Across
	_ func(api.Mesh, int, int) bool                  = flips.May
	_ func(api.Mesh, int, int) bool                  = flips.Bad
	_ func(api.Mesh, int, int) (api.Mesh, api.Errno) = flips.Flip
	_ func(api.Mesh) (api.Seg, bool)                 = flips.Next
	_ func(api.Mesh) (api.Mesh, int, api.Errno)      = flips.Delaunay
)

// kite has its long diagonal, which is bad.
func kite() api.Mesh {
	return closed(points(0, 0, 4, -1, 8, 0, 4, 1), tris(0, 1, 2, 0, 2, 3))
}

func TestExamples(t *testing.T) {
	m := kite()
	if !flips.Bad(m, 0, 2) {
		t.Error("the edge from 0 to 2 is bad")
	}
	n, e := flips.Flip(m, 0, 2)
	if !slices.Equal(n.T, tris(0, 1, 3, 1, 2, 3)) || e != api.OK {
		t.Error(n, e)
	}
	if l := edges(n); !slices.Contains(l, seg(1, 3)) || slices.Contains(l, seg(0, 2)) {
		t.Error(l)
	}
	check(t, m)
}

func TestREADME(t *testing.T) {
	m := api.Mesh{P: points(0, 0, 4, -1, 8, 0, 4, 1), T: tris(0, 1, 2, 0, 2, 3), S: segs(0, 1, 0, 3, 1, 2, 2, 3)}
	if c, d, ok := flips.Across(m, 0, 2); c != 3 || d != 1 || !ok {
		t.Error(c, d, ok)
	}
	if may, bad := flips.May(m, 0, 2), flips.Bad(m, 0, 2); !may || !bad {
		t.Error(may, bad)
	}
	if s, ok := flips.Next(m); s != seg(0, 2) || !ok {
		t.Error(s, ok)
	}
	n, e := flips.Flip(m, 0, 2)
	if !slices.Equal(n.T, tris(0, 1, 3, 1, 2, 3)) || e != api.OK {
		t.Error(n, e)
	}
	done, count, e := flips.Delaunay(m)
	if !equal(done, n) || count != 1 || e != api.OK {
		t.Error(done, count, e)
	}
}

// sample is a mesh, and what is told of one of its edges.
type sample struct {
	name     string
	m        api.Mesh
	a, b     int
	c, d     int
	ok       bool
	may, bad bool
}

func squareOf(stay ...api.Seg) api.Mesh {
	return closed(points(0, 0, 4, 0, 4, 4, 0, 4), tris(0, 1, 2, 0, 2, 3), stay...)
}

// twoAt has an edge from 0 to 1, along the X axis to (8, 0), with 2 above it and 3 below.
func twoAt(x, y, u, v int) api.Mesh {
	return closed(points(0, 0, 8, 0, x, y, u, v), tris(0, 1, 2, 0, 3, 1))
}

func samples() []sample {
	k := kite()
	other := closed(k.P, tris(0, 1, 3, 1, 2, 3))
	return []sample{
		{"kite", k, 0, 2, 3, 1, true, true, true},
		{"kite, back", k, 2, 0, 1, 3, true, true, true},
		{"a side of it", k, 0, 1, 0, 0, false, false, false},
		{"a side, back", k, 1, 0, 0, 0, false, false, false},
		{"no edge", k, 1, 3, 0, 0, false, false, false},
		{"a point", k, 2, 2, 0, 0, false, false, false},
		{"no point", k, 0, 4, 0, 0, false, false, false},
		{"below 0", k, -1, 0, 0, 0, false, false, false},
		{"far off", k, math.MinInt, math.MaxInt, 0, 0, false, false, false},
		{"a great number", k, 1 << 32, 2 + 1<<32, 0, 0, false, false, false},
		{"kite, flipped", other, 1, 3, 0, 2, true, true, false},
		{"kite, flipped, back", other, 3, 1, 2, 0, true, true, false},
		{"kite, its diagonal stays", closed(k.P, k.T, seg(0, 2)), 0, 2, 3, 1, true, false, false},
		{"the same, back", closed(k.P, k.T, seg(0, 2)), 2, 0, 1, 3, true, false, false},
		{"on the circle", squareOf(), 0, 2, 3, 1, true, true, false},
		{"on the circle, it stays", squareOf(seg(0, 2)), 0, 2, 3, 1, true, false, false},
		{"just inside the circle", twoAt(4, 4, 4, -3), 0, 1, 2, 3, true, true, true},
		{"on it", twoAt(4, 4, 4, -4), 0, 1, 2, 3, true, true, false},
		{"just outside", twoAt(4, 4, 4, -5), 0, 1, 2, 3, true, true, false},
		{"near an end", twoAt(4, 4, 7, -2), 0, 1, 2, 3, true, true, true},
		{"a dart", twoAt(9, 4, 9, -1), 0, 1, 2, 3, true, false, false},
		{"a dart at the other end", twoAt(-1, 4, -1, -1), 0, 1, 2, 3, true, false, false},
		{"straight at an end", twoAt(8, 4, 8, -4), 0, 1, 2, 3, true, false, false},
		{"straight at the other end", twoAt(0, 4, 0, -1), 0, 1, 2, 3, true, false, false},
		{"straight, aslant", twoAt(7, 3, 9, -3), 0, 1, 2, 3, true, false, false},
		{"hardly convex", twoAt(7, 3, 8, -3), 0, 1, 2, 3, true, true, false},
	}
}

func TestSamples(t *testing.T) {
	for _, x := range samples() {
		if c, d, ok := flips.Across(x.m, x.a, x.b); c != x.c || d != x.d || ok != x.ok {
			t.Errorf("%s: Across = %d, %d, %v", x.name, c, d, ok)
		}
		if may, bad := flips.May(x.m, x.a, x.b), flips.Bad(x.m, x.a, x.b); may != x.may || bad != x.bad {
			t.Errorf("%s: May = %v, Bad = %v", x.name, may, bad)
		}
		if _, e := flips.Flip(x.m, x.a, x.b); e == api.OK != x.may || e != api.OK && e != api.ErrFlip {
			t.Errorf("%s: Flip: %d", x.name, e)
		}
		check(t, x.m)
	}
}

// One edge, with both third points anywhere in a small grid: each pair of triangles.
func TestAllPairs(t *testing.T) {
	var f found
	for i := range 5 * 11 * 5 * 11 {
		f.add(check(t, twoAt(i%11, 1+i/11%5, i/55%11, -1-i/605)))
	}
	if f.may < 2000 || f.bad < 1000 || f.meshes != 3025 {
		t.Error(f)
	}
}

// The edge of the quadrilateral's other diagonal is there already, in a triangle that lies over both: no flip, whichever way that triangle has it.
func TestEdgeThatIsThere(t *testing.T) {
	k := kite()
	for _, x := range []struct {
		name   string
		beyond api.Point
		over   api.Tri
	}{
		{"from 3 to 1", at(20, 0), tri(1, 4, 3)},
		{"from 1 to 3", at(-20, 0), tri(1, 3, 4)},
	} {
		p := append(slices.Clone(k.P), x.beyond)
		m := closed(p, append(slices.Clone(k.T), x.over))
		if f := check(t, m); f.may != 0 || f.bad != 0 || f.held != 2 {
			t.Error(x.name, f)
		}
		if c, d, ok := flips.Across(m, 0, 2); c != 3 || d != 1 || !ok || flips.May(m, 0, 2) || flips.Bad(m, 0, 2) {
			t.Error(x.name, c, d, ok)
		}
		if n, e := flips.Flip(m, 0, 2); !isNone(n) || e != api.ErrFlip {
			t.Error(x.name, n, e)
		}
		if s, ok := flips.Next(m); ok {
			t.Error(x.name, s)
		}
		// Elsewhere, that triangle is in no way.
		p = append(slices.Clone(k.P), x.beyond, at(40, 9), at(40, -9))
		if !flips.Bad(closed(p, append(slices.Clone(k.T), tri(4, 6, 5))), 0, 2) {
			t.Error(x.name, "elsewhere")
		}
	}
}

// stack has kites that lie over each other: the long diagonal of each one is the short one of the next one, and so in its way.
func stack(n int) api.Mesh {
	var p []api.Point
	var l []api.Tri
	for i := range n + 2 {
		size := 100 - i
		if i%2 == 0 {
			p = append(p, at(-size, 0), at(size, 0))
		} else {
			p = append(p, at(0, -size), at(0, size))
		}
	}
	for i := range n {
		a, b, c, d := 2*i, 2*i+1, 2*i+2, 2*i+3
		if i%2 == 0 {
			l = append(l, tri(a, b, d), tri(a, c, b))
		} else {
			l = append(l, tri(a, b, c), tri(a, d, b))
		}
	}
	return closed(p, l)
}

// An edge that is held by another one is bad as soon as that one is flipped.
func TestHeldEdges(t *testing.T) {
	for n := 1; n < 8; n++ {
		m := stack(n)
		if f := check(t, m); f.bad != 2 || f.held != 2*n-2 || f.flips != n {
			t.Error(n, f)
		}
		// The last kite alone is free; then one after the other, back to the first one.
		for i := n - 1; i >= 0; i-- {
			s, ok := flips.Next(m)
			if want := seg(2*i, 2*i+1); s != want || !ok {
				t.Errorf("Next(%v) = %v, %v, want %v", m, s, ok, want)
			}
			m, _ = flips.Flip(m, s.A, s.B)
		}
		if s, ok := flips.Next(m); ok {
			t.Error(s)
		}
	}
}

// catalan is how many triangulations a convex loop of n points has.
func catalan(n int) int {
	c := 1
	for i := range n - 2 {
		c = c * 2 * (2*i + 1) / (i + 2)
	}
	return c
}

// Flips lead to all triangulations of a convex loop, and from each one to the same without a bad edge, if no four points are on a circle.
func TestConvexLoops(t *testing.T) {
	for n := 3; n < 8; n++ {
		var p []api.Point
		for i := range n {
			p = append(p, at(10*i, i*i*(i+3)))
		}
		l := all(t, made(t, api.Poly{P: p, L: around(rising(0, n))}))
		if len(l) != catalan(n) {
			t.Errorf("%d triangulations of %d points", len(l), n)
		}
		checkOne(t, l)
	}
}

// checkOne wants these meshes to have one triangulation without a bad edge, and all to lead there.
func checkOne(t *testing.T, l []api.Mesh) {
	t.Helper()
	done := 0
	want, _, _ := flips.Delaunay(l[0])
	for _, m := range l {
		n, count, e := flips.Delaunay(m)
		if !equal(n, want) || e != api.OK {
			t.Errorf("Delaunay(%v) = %v, but elsewhere %v", m, n, want)
		}
		if count == 0 {
			done++
		}
	}
	if done != 1 {
		t.Errorf("%d of %d meshes have no bad edge", done, len(l))
	}
}

// On one circle no edge is bad, and all may be flipped.
func TestOneCircle(t *testing.T) {
	p := points(5, 0, 4, 3, 3, 4, 0, 5, -3, 4, -5, 0, 0, -5)
	for n := 4; n <= 7; n++ {
		l := all(t, made(t, api.Poly{P: p[:n], L: around(rising(0, n))}))
		if len(l) != catalan(n) {
			t.Errorf("%d triangulations of %d points", len(l), n)
		}
		for _, m := range l {
			same, count, e := flips.Delaunay(m)
			if !equal(same, m) || count != 0 || e != api.OK {
				t.Errorf("Delaunay(%v) = %v, %d, %d", m, same, count, e)
			}
			for _, s := range edges(m) {
				if inner := !slices.Contains(m.S, s); flips.May(m, s.A, s.B) != inner || flips.Bad(m, s.A, s.B) {
					t.Errorf("%v of %v", s, m)
				}
			}
		}
	}
}

// inner has the edges that may be in a triangulation of p, beside its segments.
func inner(p api.Poly) []api.Seg {
	var l []api.Seg
	for a := range p.P {
		for b := a + 1; b < len(p.P); b++ {
			isSegment := slices.ContainsFunc(slices.Concat(p.L, p.I), func(s api.Seg) bool { return s == seg(a, b) || s == seg(b, a) })
			if valid.Inside(p, a, b) && !isSegment {
				l = append(l, seg(a, b))
			}
		}
	}
	return l
}

// crosses tells whether s and r have a point in common that is no end of both.
func crosses(p []api.Point, s, r api.Seg) bool {
	return s.A != r.A && s.A != r.B && s.B != r.A && s.B != r.B && meets(p[s.A], p[s.B], p[r.A], p[r.B])
}

// choices counts the ways to choose n of the edges of l so that no two cross.
func choices(p []api.Point, l []api.Seg, n int) int {
	if n == 0 {
		return 1
	}
	if len(l) < n {
		return 0
	}
	var beside []api.Seg
	for _, r := range l[1:] {
		if !crosses(p, l[0], r) {
			beside = append(beside, r)
		}
	}
	return choices(p, l[1:], n) + choices(p, beside, n-1)
}

// All triangulations of points inside a loop, and beside segments that stay: flips lead to each choice of as many edges as go in.
func TestAllTriangulations(t *testing.T) {
	square := api.Poly{P: points(0, 0, 40, 1, 41, 43, 2, 40), L: around(rising(0, 4))}
	inside := with(square, points(10, 20, 23, 12, 31, 27), nil, nil)
	r := rand.New(rand.NewPCG(13, 1))
	for _, x := range []struct {
		name string
		p    api.Poly
		most int
	}{
		{"one point", with(square, points(10, 20), nil, nil), 3},
		{"three points", inside, 50},
		{"a hole", with(square, inside.P[4:], around(rising(4, 7)), nil), 50},
		{"a segment", with(inside, nil, nil, segs(4, 6)), 50},
		{"two segments", with(inside, nil, nil, segs(4, 6, 1, 5)), 50},
		{"a segment that is not Delaunay", with(square, points(20, 8, 20, 9, 22, 11), nil, segs(0, 4, 1, 6)), 50},
		{"no convex loop", api.Poly{P: points(0, 0, 40, 3, 17, 19, 45, 41, 1, 39, 9, 18), L: around(rising(0, 6))}, 50},
	} {
		for range 3 {
			m := made(t, x.p)
			l := all(t, m)
			if want := choices(x.p.P, inner(x.p), len(edges(m))-len(m.S)); len(l) != want || want < 2 || want > x.most {
				t.Errorf("%s: %d triangulations, want %d", x.name, len(l), want)
			}
			checkOne(t, l)
			for _, n := range l {
				checkP7(t, n)
			}
			x.p = renumbered(r, x.p)
		}
	}
}

// ordinary has meshes of inputs that were drawn.
func ordinary(t *testing.T, r *rand.Rand, count, steps, size int) []api.Mesh {
	t.Helper()
	var l []api.Mesh
	for range count {
		l = append(l, made(t, drawn(r, 1+r.IntN(steps), size)))
	}
	return l
}

func TestDrawn(t *testing.T) {
	r := rand.New(rand.NewPCG(13, 2))
	var f found
	for _, size := range []int{4, 12, 100, 1 << 20} {
		for _, m := range ordinary(t, r, 25, 16, size) {
			f.add(check(t, m))
			checkP7(t, m)
		}
	}
	if f.may < 500 || f.bad < 300 || f.flips < 200 || f.held != 0 {
		t.Error(f)
	}
}

// meets tells whether the segments from a to b and from c to d have a point in common.
func meets(a, b, c, d api.Point) bool {
	one, other := turn(a, b, c)*turn(a, b, d), turn(c, d, a)*turn(c, d, b)
	if one == 0 && other == 0 {
		return max(min(a.X, b.X), min(c.X, d.X)) <= min(max(a.X, b.X), max(c.X, d.X)) && max(min(a.Y, b.Y), min(c.Y, d.Y)) <= min(max(a.Y, b.Y), max(c.Y, d.Y))
	}
	return one <= 0 && other <= 0
}

// weights are of the corners of a triangle, for places inside it.
func weights() [][3]int {
	return [][3]int{{1, 1, 1}, {1, 4, 4}, {4, 1, 4}, {4, 4, 1}, {1, 1, 10}, {1, 10, 1}, {10, 1, 1}}
}

// sees tells whether, from a place inside the triangle, q is visible past all segments that stay, none of which is touched, but at q.
func sees(m api.Mesh, x api.Tri, w [3]int, q int) bool {
	k := w[0] + w[1] + w[2]
	p := each(m.P, func(o api.Point) api.Point { return at(k*o.X, k*o.Y) })
	a, b, c := m.P[x.A], m.P[x.B], m.P[x.C]
	from := at(w[0]*a.X+w[1]*b.X+w[2]*c.X, w[0]*a.Y+w[1]*b.Y+w[2]*c.Y)
	for _, s := range m.S {
		if s.A != q && s.B != q && meets(from, p[q], p[s.A], p[s.B]) {
			return false
		}
	}
	return true
}

// pierced counts the points that are inside the circumcircle of a triangle, and visible from a place inside it.
func pierced(m api.Mesh) int {
	n := 0
	for _, x := range m.T {
		for q := range m.P {
			if q != x.A && q != x.B && q != x.C && inCircle(m.P[x.A], m.P[x.B], m.P[x.C], m.P[q]) {
				if slices.ContainsFunc(weights(), func(w [3]int) bool { return sees(m, x, w, q) }) {
					n++
				}
			}
		}
	}
	return n
}

// checkP7: without a bad edge, no circumcircle contains a visible point; with one, one does.
func checkP7(t *testing.T, m api.Mesh) {
	t.Helper()
	if _, bad := flips.Next(m); bad != (pierced(m) > 0) {
		t.Fatalf("Next(%v) is %v, but %d visible points are in circumcircles", m, bad, pierced(m))
	}
	n, _, e := flips.Delaunay(m)
	if count := pierced(n); count != 0 || e != api.OK {
		t.Fatalf("Delaunay(%v) = %v, %d, with %d visible points in circumcircles", m, n, e, count)
	}
}

// hull has the numbers of the points around all of p, of which no three are in a row.
func hull(p []api.Point) []int {
	first := 0
	for i, q := range p {
		if q.X < p[first].X || q.X == p[first].X && q.Y < p[first].Y {
			first = i
		}
	}
	ring := []int{first}
	for {
		last, next := ring[len(ring)-1], -1
		for i := range p {
			if i != last && (next < 0 || turn(p[last], p[next], p[i]) < 0) {
				next = i
			}
		}
		if next == first {
			return ring
		}
		ring = append(ring, next)
	}
}

// plain tells whether no three points of p are in a row.
func plain(p []api.Point) bool {
	for i := range p {
		for k := range i {
			for j := range k {
				if turn(p[i], p[k], p[j]) == 0 {
					return false
				}
			}
		}
	}
	return true
}

// empty has all triangles of points of p whose circumcircle contains no other point, and whether none has one on it.
func empty(p []api.Point) ([]api.Tri, bool) {
	var l []api.Tri
	single := true
	for a := range p {
		for b := a + 1; b < len(p); b++ {
			for c := a + 1; c < len(p); c++ {
				if c != b && turn(p[a], p[b], p[c]) > 0 {
					isEmpty, alone := circle(p, a, b, c)
					if isEmpty {
						l = append(l, tri(a, b, c))
					}
					single = single && (!isEmpty || alone)
				}
			}
		}
	}
	return l, single
}

// circle tells whether the circle through three points, which turn left, has no others inside it; and whether it has none on it either.
func circle(p []api.Point, a, b, c int) (bool, bool) {
	alone := true
	for i, q := range p {
		if i == a || i == b || i == c {
			continue
		}
		if inCircle(p[a], p[b], p[c], q) {
			return false, false
		}
		alone = alone && inCircle(p[a], p[c], p[b], q)
	}
	return true, alone
}

// P7, with no other segments than those around: the triangles are all those with an empty circumcircle, whatever the mesh was before, and however the points are numbered.
func TestAllEmptyCircles(t *testing.T) {
	r := rand.New(rand.NewPCG(13, 3))
	for n := 4; n < 24; {
		var p []api.Point
		for range n {
			p = append(p, at(r.IntN(1000), r.IntN(1000)))
		}
		want, single := empty(p)
		if !plain(p) || !single {
			continue
		}
		m := made(t, api.Poly{P: p, L: around(hull(p))})
		if len(m.T) != len(want) {
			t.Fatalf("%d triangles of %v, but %d empty circles", len(m.T), p, len(want))
		}
		for range 8 {
			done, _, e := flips.Delaunay(m)
			if !slices.Equal(done.T, want) || e != api.OK {
				t.Fatalf("Delaunay(%v) = %v, %d, want %v", m, done, e, want)
			}
			checkWhole(t, m)
			m = shaken(r, m, 4*n)
		}
		n++
	}
}

// shaken is m after flips of edges that may be flipped, whichever.
func shaken(r *rand.Rand, m api.Mesh, times int) api.Mesh {
	for range times {
		l := edges(m)
		s := l[r.IntN(len(l))]
		if n, e := flips.Flip(m, s.A, s.B); e == api.OK {
			m = n
		}
	}
	return m
}

// Wherever flips lead, the area stays, and so does what is asked of the way back.
func TestShaken(t *testing.T) {
	r := rand.New(rand.NewPCG(13, 4))
	var f found
	for _, m := range ordinary(t, r, 60, 14, 60) {
		n := shaken(r, m, 40)
		f.add(check(t, n))
		checkP7(t, n)
		if area(n) != area(m) || !slices.Equal(n.S, m.S) {
			t.Fatalf("%v became %v", m, n)
		}
		for _, s := range m.S {
			if !slices.Contains(edges(n), s) {
				t.Fatalf("%v is no edge of %v", s, n)
			}
		}
	}
	if f.bad < 200 || f.flips < 200 {
		t.Error(f)
	}
}

// area is twice that of all triangles.
func area(m api.Mesh) int {
	whole := 0
	for _, x := range m.T {
		a, b, c := m.P[x.A], m.P[x.B], m.P[x.C]
		whole += (b.X-a.X)*(c.Y-a.Y) - (b.Y-a.Y)*(c.X-a.X)
	}
	return whole
}

// board has the points of a grid, in rows and on circles, in some order.
func board(r *rand.Rand, width, height int) api.Poly {
	var p api.Poly
	var ring []int
	for i := range width * height {
		p.P = append(p.P, at(i%width, i/width))
	}
	for i := range width {
		ring = append(ring, i)
	}
	for i := 1; i < height; i++ {
		ring = append(ring, i*width+width-1)
	}
	for i := width - 2; i >= 0; i-- {
		ring = append(ring, (height-1)*width+i)
	}
	for i := height - 2; i > 0; i-- {
		ring = append(ring, i*width)
	}
	p.L = around(ring)
	return renumbered(r, p)
}

// Where four points are on a circle, which edge is flipped first tells which ones there are at the end.
func TestOrderOfFlips(t *testing.T) {
	r := rand.New(rand.NewPCG(13, 5))
	var f found
	for range 40 {
		m := made(t, board(r, 2+r.IntN(4), 2+r.IntN(4)))
		f.add(check(t, m))
		f.flips += checkWhole(t, shaken(r, m, 100))
	}
	if f.flips < 200 {
		t.Error(f)
	}
}

// sheets are triangles of few points, laid as long as no two have an edge in the same direction: they may overlap, and go round a point more than once.
func sheets(r *rand.Rand, n, size int) api.Mesh {
	var p []api.Point
	for range n {
		p = append(p, at(r.IntN(size), r.IntN(size)))
	}
	var l []api.Tri
	taken := map[api.Seg]int{}
	for range 1 + r.IntN(6*n) {
		x, ok := fill.Tri(p, r.IntN(n), r.IntN(n), r.IntN(n))
		if !ok || taken[seg(x.A, x.B)]+taken[seg(x.B, x.C)]+taken[seg(x.C, x.A)] > 0 {
			continue
		}
		l = append(l, x)
		for _, s := range sides(x) {
			taken[s]++
		}
	}
	m := closed(p, l)
	if l := edges(m); len(l) > 0 && r.IntN(2) == 0 {
		m.S = sortSegs(append(m.S, l[r.IntN(len(l))]))
	}
	return m
}

// P1: meshes whose triangles overlap, which fill.Check does not refuse.
func TestOverlapping(t *testing.T) {
	r := rand.New(rand.NewPCG(13, 6))
	var f found
	for range 1500 {
		f.add(check(t, sheets(r, 3+r.IntN(7), 3+r.IntN(30))))
	}
	if f.may < 1000 || f.bad < 500 || f.held < 300 || f.flips < 300 {
		t.Error(f)
	}
}

// apart tells whether x has no edge in the same direction as one of l.
func apart(l []api.Tri, x api.Tri) bool {
	for _, y := range l {
		for _, s := range sides(y) {
			if slices.Contains(sides(x), s) {
				return false
			}
		}
	}
	return true
}

// All choices of triangles between few points that fill.Check takes, whether they overlap or not.
func TestAllChoices(t *testing.T) {
	var f found
	for _, p := range [][]api.Point{
		points(0, 0, 9, 1, 10, 8, 2, 9, 5, 4),
		points(0, 0, 9, 0, 6, 2, 3, 3, 0, 7),
		points(0, 0, 4, 0, 8, 0, 4, 4, 4, -3),
		points(0, 0, 4, 0, 4, 4, 0, 4, 0, 0),
		points(0, 0, 9, 1, 10, 8, 2, 9, 5, 4, 7, 3),
		points(2, 0, 4, 0, 6, 2, 4, 5, 2, 4, 0, 3),
	} {
		var grow func(l []api.Tri, ahead int)
		n := len(p)
		grow = func(l []api.Tri, ahead int) {
			f.add(check(t, closed(p, l)))
			for i := ahead; i < n*n*n; i++ {
				a, b, c := i/n/n, i/n%n, i%n
				x, ok := fill.Tri(p, a, b, c)
				if ok && a < b && b < c && apart(l, x) {
					grow(append(slices.Clone(l), x), i+1)
				}
			}
		}
		grow(nil, 0)
	}
	if f.meshes < 2000 || f.may < 1000 || f.bad < 300 || f.held < 50 || f.flips < 200 {
		t.Error(f)
	}
}

// strip is a strip of n triangles, whose rims stay.
func strip(n int) api.Mesh {
	var p []api.Point
	var l []api.Tri
	for i := range n + 2 {
		p = append(p, at(i, i%2))
	}
	for i := range n {
		x := tri(i, i+1, i+2)
		if i%2 == 0 {
			x = tri(i, i+2, i+1)
		}
		l = append(l, x)
	}
	return closed(p, l)
}

// fan is a convex loop with all edges from one point, at the steep end of a bowl, though all should be from its other end: the circle through three points of y = x^2, whose X have the sum s, meets the bowl again at -s.
func fan(n int) api.Mesh {
	var p []api.Point
	var l []api.Tri
	for i := range n {
		p = append(p, at(i+1-n, (i+1-n)*(i+1-n)))
	}
	for i := 2; i < n; i++ {
		l = append(l, tri(0, i-1, i))
	}
	return closed(p, l)
}

// kites are n of them, beside each other.
func kites(n int) api.Mesh {
	k := kite()
	var m api.Mesh
	for i := range n {
		m.P = append(m.P, each(k.P, func(q api.Point) api.Point { return at(q.X+10*i, q.Y) })...)
		m.T = append(m.T, tri(4*i, 4*i+1, 4*i+2), tri(4*i, 4*i+2, 4*i+3))
		m.S = append(m.S, segs(4*i, 4*i+1, 4*i, 4*i+3, 4*i+1, 4*i+2, 4*i+2, 4*i+3)...)
	}
	return m
}

func TestGreatMeshes(t *testing.T) {
	for _, n := range []int{1, 2, 3, 20} {
		check(t, strip(n))
		check(t, fan(n+2))
		check(t, kites(n))
	}
	checkWhole(t, fan(60))
	for _, x := range []struct {
		name  string
		m     api.Mesh
		flips int
	}{
		{"strip", strip(1 << 16), 0},
		{"kites", kites(1 << 15), 1 << 15},
		// With the first edge first, the way is as long as can be: all edges that do not end at the last point come, and go.
		{"fan", fan(api.MaxPlaces), (api.MaxPlaces - 2) * (api.MaxPlaces - 3) / 2},
	} {
		n, count, e := flips.Delaunay(x.m)
		if e != api.OK || count != x.flips {
			t.Errorf("%s: %d flips, %d", x.name, count, e)
		}
		checkDone(t, x.m, n)
	}
	n, _, _ := flips.Delaunay(fan(api.MaxPlaces))
	for _, x := range n.T {
		if x.C != api.MaxPlaces-1 || x.B != x.A+1 {
			t.Fatalf("%v is not at the last point", x)
		}
	}
}

// Points as far as they fit, and circles that differ by less than any smaller number could tell.
func TestGreatPlaces(t *testing.T) {
	const b = api.Bound
	corners := points(-b, -b, b, -b, b, b, -b, b)
	for _, x := range []struct {
		name string
		p    []api.Point
		bad  bool
	}{
		{"on the circle", corners, false},
		{"inside, by 1", points(-b, -b, b-1, -b, b, b, -b, b), true},
		{"inside, by 1 upwards", points(-b, -b, b, 1-b, b, b, -b, b), true},
		{"outside", points(-b, -b, b, -b, b, b-1, -b, b), false},
		{"thin", points(-b, -b, 0, -1, b, b, 0, 1), true},
		{"thin, the other way", points(-1, 0, 0, -b, 1, 0, 0, b), false},
	} {
		m := closed(x.p, tris(0, 1, 2, 0, 2, 3))
		if bad := flips.Bad(m, 0, 2); bad != x.bad || !flips.May(m, 0, 2) {
			t.Errorf("%s: %v", x.name, bad)
		}
		check(t, m)
	}
	// A point beyond the bounds that is in no triangle is no reason to refuse the mesh.
	m := kite()
	m.P = append(m.P, at(math.MaxInt, math.MinInt))
	check(t, m)
}

// What is taken as it is, though it has no triangles.
func TestEmptyMeshes(t *testing.T) {
	for _, m := range []api.Mesh{{}, {P: points(0, 0)}, {P: points(0, 0, 4, 0, 0, 4), T: []api.Tri{}, S: []api.Seg{}}} {
		if f := check(t, m); f.may != 0 || f.flips != 0 {
			t.Error(f)
		}
	}
}

func TestRefused(t *testing.T) {
	k := kite()
	for _, x := range []struct {
		name string
		m    api.Mesh
	}{
		{"triangles out of order", api.Mesh{P: k.P, T: tris(0, 2, 3, 0, 1, 2), S: k.S}},
		{"a triangle twice", api.Mesh{P: k.P, T: tris(0, 1, 2, 0, 1, 2, 0, 2, 3), S: k.S}},
		{"a clockwise triangle", api.Mesh{P: k.P, T: tris(0, 1, 2, 0, 3, 2), S: k.S}},
		{"not begun by the smallest", api.Mesh{P: k.P, T: tris(0, 1, 2, 2, 3, 0), S: k.S}},
		{"a point", api.Mesh{T: tris(0, 0, 0)}},
		{"a number below 0", api.Mesh{P: k.P, T: tris(-1, 1, 2, 0, 2, 3), S: k.S}},
		{"a great number", api.Mesh{P: k.P, T: tris(0, 1, 2, 0, 2, math.MaxInt), S: k.S}},
		{"a point that is not there", api.Mesh{P: k.P[:3], T: k.T, S: k.S}},
		{"a point that does not fit", api.Mesh{P: points(0, 0, 4, -1, api.Bound+1, 0, 4, 1), T: k.T, S: k.S}},
		{"collinear", api.Mesh{P: points(0, 0, 4, 0, 8, 0, 4, 1), T: k.T, S: k.S}},
		{"S without one", api.Mesh{P: k.P, T: k.T, S: k.S[1:]}},
		{"no S", api.Mesh{P: k.P, T: k.T}},
		{"S out of order", api.Mesh{P: k.P, T: k.T, S: segs(0, 3, 0, 1, 1, 2, 2, 3)}},
		{"one of S twice", api.Mesh{P: k.P, T: k.T, S: segs(0, 1, 0, 1, 0, 3, 1, 2, 2, 3)}},
		{"one of S the other way round", api.Mesh{P: k.P, T: k.T, S: segs(0, 1, 0, 3, 1, 2, 2, 0, 2, 3)}},
		{"one of S that is no edge", api.Mesh{P: k.P, T: k.T, S: segs(0, 1, 0, 3, 1, 2, 1, 3, 2, 3)}},
		{"an edge twice", api.Mesh{P: points(0, 0, 4, 0, 4, 4, 0, 4), T: tris(0, 1, 2, 0, 1, 3), S: segs(0, 1, 0, 2, 0, 3, 1, 2, 1, 3)}},
		{"S alone", api.Mesh{S: segs(0, 0)}},
	} {
		t.Run(x.name, func(t *testing.T) { checkRefused(t, x.m) })
	}
}

// Each mesh with one thing spoiled is refused, or taken as it then is.
func TestSpoiled(t *testing.T) {
	r := rand.New(rand.NewPCG(13, 7))
	refused, taken := 0, 0
	for _, m := range ordinary(t, r, 60, 8, 30) {
		for range 12 {
			if n := spoiled(r, m); fill.Check(n) == api.OK {
				taken++
				check(t, n)
			} else {
				refused++
				checkRefused(t, n)
			}
		}
	}
	if refused < 300 || taken < 50 {
		t.Error(refused, taken)
	}
}

func spoiled(r *rand.Rand, m api.Mesh) api.Mesh {
	m = clone(m)
	i, k := r.IntN(len(m.T)), r.IntN(len(m.S))
	x, s := m.T[i], m.S[k]
	switch r.IntN(8) {
	case 0:
		m.T[i] = []api.Tri{tri(x.B, x.C, x.A), tri(x.A, x.C, x.B), tri(x.A, x.B, r.IntN(len(m.P)))}[r.IntN(3)]
	case 1:
		m.T = slices.Delete(m.T, i, i+1)
	case 2:
		m.T = slices.Insert(m.T, i, x)
	case 3:
		m.S[k] = seg(s.B, s.A)
	case 4:
		m.S = slices.Delete(m.S, k, k+1)
	case 5:
		m.P[r.IntN(len(m.P))] = at(r.IntN(31), r.IntN(31))
	case 6:
		inner := sides(x)[r.IntN(3)]
		m.S = sortSegs(append(m.S, seg(min(inner.A, inner.B), max(inner.A, inner.B))))
	case 7:
		m.P = append(m.P, at(r.IntN(31), r.IntN(31)))
	}
	return m
}

// R1: what is wrong with the mesh is told ahead of what is wrong with the edge.
func TestFirstError(t *testing.T) {
	m := kite()
	wrong := api.Mesh{P: m.P, T: m.T}
	for _, s := range segs(0, 2, 2, 0, 0, 1, 1, 3, -1, 9, 2, 2, math.MinInt, math.MaxInt) {
		if n, e := flips.Flip(wrong, s.A, s.B); !isNone(n) || e != api.ErrArg {
			t.Errorf("%v: %v, %d", s, n, e)
		}
		want := api.ErrFlip
		if s.A*s.B == 0 && s.A+s.B == 2 {
			want = api.OK
		}
		if _, e := flips.Flip(m, s.A, s.B); e != want {
			t.Errorf("%v: %d, want %d", s, e, want)
		}
	}
}

// set makes all elements x, the ones behind the end too.
func set[T any](l []T, x T) {
	l = l[:cap(l)]
	for i := range l {
		l[i] = x
	}
}

func setAll(m api.Mesh) {
	set(m.P, at(7, 7))
	set(m.T, tri(7, 7, 7))
	set(m.S, seg(7, 7))
}

// R2: results are the caller's own, also where nothing is flipped; what is behind the end of an argument is neither read nor written.
func TestResultsAreNewMemory(t *testing.T) {
	k := kite()
	flat, _ := flips.Flip(k, 0, 2)
	for _, x := range []api.Mesh{k, flat} {
		m := api.Mesh{P: append(slices.Clone(x.P), at(9, 9))[:4], T: append(slices.Clone(x.T), tri(9, 9, 9))[:2], S: append(slices.Clone(x.S), seg(9, 9))[:4]}
		kept := api.Mesh{P: slices.Clone(m.P[:5]), T: slices.Clone(m.T[:3]), S: slices.Clone(m.S[:5])}
		s := seg(0, 2)
		if x.T[0].C == 3 {
			s = seg(1, 3)
		}
		for range 2 {
			one, e := flips.Flip(m, s.A, s.B)
			two, _ := flips.Flip(m, s.A, s.B)
			three, _, eD := flips.Delaunay(m)
			four, _, _ := flips.Delaunay(m)
			if e != api.OK || eD != api.OK {
				t.Fatal(e, eD)
			}
			setAll(one)
			setAll(three)
			if !equal(two, wantFlip(x, s.A, s.B)) || !equal(four, flat) {
				t.Error("results share memory", two, four)
			}
			setAll(two)
			setAll(four)
		}
		if !equal(api.Mesh{P: m.P[:5], T: m.T[:3], S: m.S[:5]}, kept) {
			t.Errorf("%v became %v", kept, m)
		}
	}
	// An empty mesh shares nothing either.
	none := api.Mesh{P: points(0, 0, 1, 1)[:0], T: tris(0, 1, 2)[:0], S: segs(0, 1)[:0]}
	n, _, _ := flips.Delaunay(none)
	setAll(n)
	if !equal(api.Mesh{P: none.P[:2], T: none.T[:1], S: none.S[:1]}, api.Mesh{P: points(0, 0, 1, 1), T: tris(0, 1, 2), S: segs(0, 1)}) {
		t.Error(none)
	}
}

// R4: what was asked ahead changes no answer.
func TestSameAgain(t *testing.T) {
	list := samples()
	for _, x := range list {
		for _, y := range list {
			for _, s := range []sample{x, y, x} {
				c, d, ok := flips.Across(s.m, s.a, s.b)
				if c != s.c || d != s.d || ok != s.ok || flips.May(s.m, s.a, s.b) != s.may || flips.Bad(s.m, s.a, s.b) != s.bad {
					t.Fatal(s.name, c, d, ok)
				}
			}
		}
	}
	// The order in which a map is gone through is another one each time; no answer is.
	r := rand.New(rand.NewPCG(13, 8))
	for range 5 {
		m := shaken(r, made(t, board(r, 6, 6)), 200)
		wantS, wantOK := flips.Next(m)
		want, wantCount, _ := flips.Delaunay(m)
		for range 20 {
			s, ok := flips.Next(m)
			n, count, e := flips.Delaunay(m)
			if s != wantS || ok != wantOK || !equal(n, want) || count != wantCount || e != api.OK {
				t.Fatalf("other answers of %v: %v, %v, %v", m, s, n, count)
			}
		}
	}
}

// R6: nil is as empty as others are.
func TestNilAndEmpty(t *testing.T) {
	k := kite()
	for _, p := range [][]api.Point{nil, {}, points(0, 0)[:0]} {
		for _, l := range [][]api.Tri{nil, {}, tris(0, 1, 2)[:0]} {
			for _, s := range [][]api.Seg{nil, {}, segs(0, 1)[:0]} {
				check(t, api.Mesh{P: p, T: l, S: s})
				check(t, api.Mesh{P: k.P, T: l, S: s})
				checkRefused(t, api.Mesh{P: k.P, T: k.T, S: s})
				checkRefused(t, api.Mesh{P: p, T: k.T, S: k.S})
			}
			checkRefused(t, api.Mesh{P: k.P, T: l, S: k.S})
		}
	}
}

// grown reads a mesh from bytes: points in a small grid, then triangles, as far as they go beside each other, and whether their first edge stays.
func grown(b []byte) api.Mesh {
	var p []api.Point
	for len(b) > 0 && b[0] < 121 && len(p) < 12 {
		p = append(p, at(int(b[0]%11), int(b[0]/11)))
		b = b[1:]
	}
	var l []api.Tri
	var stay []api.Seg
	taken := map[api.Seg]int{}
	for ; len(b) >= 3; b = b[3:] {
		x, ok := fill.Tri(p, int(b[0]%16), int(b[1]%16), int(b[2]%16))
		if !ok || taken[seg(x.A, x.B)]+taken[seg(x.B, x.C)]+taken[seg(x.C, x.A)] > 0 {
			continue
		}
		l = append(l, x)
		for _, s := range sides(x) {
			taken[s]++
		}
		if b[0] >= 128 {
			stay = append(stay, seg(x.A, x.B))
		}
	}
	m := closed(p, l, stay...)
	for i, s := range m.S {
		m.S[i] = seg(min(s.A, s.B), max(s.A, s.B))
	}
	m.S = sortSegs(m.S)
	return m
}

func FuzzMesh(f *testing.F) {
	f.Add([]byte{0, 4, 48, 44, 121, 0, 0, 0, 1, 2, 0, 2, 3})
	f.Add([]byte{22, 15, 30, 37, 24, 121, 0, 0, 0, 1, 2, 0, 2, 3, 1, 4, 3})
	f.Add([]byte{0, 10, 120, 110, 60, 14, 128, 1, 2, 0, 2, 3, 4, 0, 1, 130, 4, 5})
	f.Fuzz(func(t *testing.T, b []byte) {
		m := grown(b[:min(len(b), 100)])
		check(t, m)
		for i := range m.T {
			n := clone(m)
			n.T[i].B, n.T[i].C = n.T[i].C, n.T[i].B
			checkRefused(t, n)
		}
	})
}
