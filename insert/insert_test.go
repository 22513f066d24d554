package insert_test

import (
	"math"
	"math/rand/v2"
	"slices"
	"testing"

	"parquet/api"
	"parquet/fill"
	"parquet/insert"
)

// The calls that the chapter lists, with their exact signatures: a change of one does not compile.
var (
	_ func(api.Mesh, api.Point) (api.Spot, api.Errno) = insert.Find
	_ func(api.Mesh, api.Point) (api.Mesh, api.Errno) = insert.Add
	_ func(api.Mesh, int) (api.Mesh, api.Errno)       = insert.Grow
)

func inPlace(i int) api.Spot {
	return api.Spot{Kind: api.SpotPlace, Place: i}
}

func onEdge(a, b int) api.Spot {
	return api.Spot{Kind: api.SpotEdge, Edge: seg(a, b)}
}

func inTri(i int) api.Spot {
	return api.Spot{Kind: api.SpotTri, Tri: i}
}

func TestExamples(t *testing.T) {
	m := closed(points(0, 0, 6, 0, 0, 6), tris(0, 1, 2))
	for _, x := range []struct {
		q    api.Point
		spot api.Spot
		want []api.Tri
		s    []api.Seg
	}{
		{at(2, 2), inTri(0), tris(0, 1, 3, 0, 3, 2, 1, 2, 3), segs(0, 1, 0, 2, 1, 2)},
		{at(3, 0), onEdge(0, 1), tris(0, 3, 2, 1, 2, 3), segs(0, 2, 0, 3, 1, 2, 1, 3)},
	} {
		if spot, e := insert.Find(m, x.q); spot != x.spot || e != api.OK {
			t.Error(x.q, spot, e)
		}
		n, e := insert.Add(m, x.q)
		if !slices.Equal(n.T, x.want) || !slices.Equal(n.S, x.s) || e != api.OK {
			t.Error(x.q, n, e)
		}
		check(t, m, x.q)
	}
}

func TestREADME(t *testing.T) {
	m := api.Mesh{P: points(0, 0, 6, 0, 0, 6), T: tris(0, 1, 2), S: segs(0, 1, 0, 2, 1, 2)}
	if spot, e := insert.Find(m, at(2, 2)); spot != inTri(0) || e != api.OK {
		t.Error(spot, e)
	}
	n, e := insert.Add(m, at(3, 0))
	if want := (api.Mesh{P: points(0, 0, 6, 0, 0, 6, 3, 0), T: tris(0, 3, 2, 1, 2, 3), S: segs(0, 2, 0, 3, 1, 2, 1, 3)}); !equal(n, want) || e != api.OK {
		t.Error(n, e)
	}
	g, e := insert.Grow(n, api.Scale)
	if want := (api.Mesh{P: points(0, 0, 384, 0, 0, 384, 192, 0), T: n.T, S: n.S}); !equal(g, want) || e != api.OK {
		t.Error(g, e)
	}
}

// sample is a mesh, a point, where that lies, and the triangles and segments that come of it, or the error.
type sample struct {
	name string
	m    api.Mesh
	q    api.Point
	spot api.Spot
	t    []api.Tri
	s    []api.Seg
	e    api.Errno
}

// squareOf has the diagonal from 0 to 2.
func squareOf(stay ...api.Seg) api.Mesh {
	return closed(points(0, 0, 4, 0, 4, 4, 0, 4), tris(0, 1, 2, 0, 2, 3), stay...)
}

// and is m with points that are in no triangle.
func and(m api.Mesh, xy ...int) api.Mesh {
	m.P = append(slices.Clone(m.P), points(xy...)...)
	return m
}

func insideSamples() []sample {
	m, stays := squareOf(), squareOf(seg(0, 2))
	return []sample{
		{"first triangle", m, at(3, 1), inTri(0), tris(0, 1, 4, 0, 2, 3, 0, 4, 2, 1, 2, 4), m.S, api.OK},
		{"second triangle", m, at(1, 3), inTri(1), tris(0, 1, 2, 0, 2, 4, 0, 4, 3, 2, 3, 4), m.S, api.OK},
		{"first triangle, its edge stays", stays, at(3, 2), inTri(0), tris(0, 1, 4, 0, 2, 3, 0, 4, 2, 1, 2, 4), stays.S, api.OK},
		{"diagonal", m, at(2, 2), onEdge(0, 2), tris(0, 1, 4, 0, 4, 3, 1, 2, 4, 2, 3, 4), m.S, api.OK},
		{"diagonal, near an end", m, at(3, 3), onEdge(0, 2), tris(0, 1, 4, 0, 4, 3, 1, 2, 4, 2, 3, 4), m.S, api.OK},
		{"diagonal that stays", stays, at(2, 2), onEdge(0, 2), tris(0, 1, 4, 0, 4, 3, 1, 2, 4, 2, 3, 4), segs(0, 1, 0, 3, 0, 4, 1, 2, 2, 3, 2, 4), api.OK},
		{"below", m, at(1, 0), onEdge(0, 1), tris(0, 2, 3, 0, 4, 2, 1, 2, 4), segs(0, 3, 0, 4, 1, 2, 1, 4, 2, 3), api.OK},
		{"on the right", m, at(4, 1), onEdge(1, 2), tris(0, 1, 4, 0, 2, 3, 0, 4, 2), segs(0, 1, 0, 3, 1, 4, 2, 3, 2, 4), api.OK},
		{"above", m, at(3, 4), onEdge(2, 3), tris(0, 1, 2, 0, 2, 4, 0, 4, 3), segs(0, 1, 0, 3, 1, 2, 2, 4, 3, 4), api.OK},
		{"on the left", m, at(0, 2), onEdge(0, 3), tris(0, 1, 2, 0, 2, 4, 2, 3, 4), segs(0, 1, 0, 4, 1, 2, 2, 3, 3, 4), api.OK},
		{"on the right, a point more", and(m, 9, 9), at(4, 1), onEdge(1, 2), tris(0, 1, 5, 0, 2, 3, 0, 5, 2), segs(0, 1, 0, 3, 1, 5, 2, 3, 2, 5), api.OK},
	}
}

func outsideSamples() []sample {
	m := squareOf()
	hole := closed(points(0, 0, 8, 0, 8, 8, 0, 8, 2, 2, 5, 2, 5, 5), tris(0, 1, 5, 0, 4, 3, 0, 5, 4, 1, 2, 6, 1, 6, 5, 2, 3, 6, 3, 4, 6))
	var l []sample
	none := func(name string, m api.Mesh, q api.Point) {
		l = append(l, sample{name: name, m: m, q: q, e: api.ErrNone})
	}
	place := func(name string, m api.Mesh, q api.Point, i int) {
		l = append(l, sample{name: name, m: m, q: q, spot: inPlace(i), e: api.ErrTwice})
	}
	none("beyond a corner", m, at(5, 5))
	none("beside a corner", m, at(5, 4))
	none("in a row with an edge", m, at(-1, 0))
	none("in a row with the diagonal, on the other side", m, at(-2, -2))
	none("far off", m, at(api.Bound, -api.Bound))
	none("in a hole", hole, at(4, 3))
	none("in a mesh without triangles", api.Mesh{P: m.P}, at(2, 2))
	none("in no mesh", api.Mesh{}, at(0, 0))
	place("first point", m, at(0, 0), 0)
	place("third point", m, at(4, 4), 2)
	place("last point", m, at(0, 4), 3)
	place("a point in no triangle", and(m, 9, 9), at(9, 9), 4)
	place("a point without triangles", api.Mesh{P: m.P}, at(4, 4), 2)
	place("the smaller one of two", and(m, 9, 9, 9, 9), at(9, 9), 4)
	place("the smaller one of two, of a triangle", and(m, 4, 4), at(4, 4), 2)
	place("a point in a triangle", and(m, 3, 1), at(3, 1), 4)
	place("a point on the diagonal", and(m, 2, 2), at(2, 2), 4)
	place("a point on a rim", and(m, 2, 0), at(2, 0), 4)
	return l
}

// Triangles that overlap, which fill.Check does not refuse: of several edges or triangles the first one counts, and it alone is replaced.
func overlappingSamples() []sample {
	crossed := closed(points(0, 0, 4, 0, 0, 4, 4, 4, 0, 9), tris(0, 1, 2, 0, 3, 4))
	sameStart := closed(points(0, 0, 6, 0, 3, 0, 3, 3, 4, 4), tris(0, 1, 4, 0, 2, 3))
	stacked := closed(points(0, 0, 9, 0, 0, 9, 1, 1, 7, 1, 1, 7), tris(0, 1, 2, 3, 4, 5))
	twoSided := closed(points(0, 0, 4, 0, 2, 4, 2, -4, 2, 1, -9, 0), tris(0, 1, 2, 0, 3, 1, 3, 4, 5))
	return []sample{
		{"two edges cross, the first one in the second triangle", crossed, at(2, 2), onEdge(0, 3), tris(0, 1, 2, 0, 5, 4, 3, 4, 5), segs(0, 1, 0, 2, 0, 4, 0, 5, 1, 2, 3, 4, 3, 5), api.OK},
		{"two edges overlap, the first one by its second end", sameStart, at(1, 0), onEdge(0, 1), tris(0, 2, 3, 0, 5, 4, 1, 4, 5), segs(0, 2, 0, 3, 0, 4, 0, 5, 1, 4, 1, 5, 2, 3), api.OK},
		{"two triangles", stacked, at(2, 2), inTri(0), tris(0, 1, 6, 0, 6, 2, 1, 2, 6, 3, 4, 5), stacked.S, api.OK},
		{"an edge of one, inside the other one", stacked, at(2, 1), onEdge(3, 4), tris(0, 1, 2, 3, 6, 5, 4, 5, 6), segs(0, 1, 0, 2, 1, 2, 3, 5, 3, 6, 4, 5, 4, 6), api.OK},
		{"a point of one, inside the other one", stacked, at(1, 1), inPlace(3), nil, nil, api.ErrTwice},
		{"an edge of two, with a third one across", twoSided, at(2, 0), onEdge(0, 1), tris(0, 3, 6, 0, 6, 2, 1, 2, 6, 1, 6, 3, 3, 4, 5), twoSided.S, api.OK},
	}
}

func samples() []sample {
	return slices.Concat(insideSamples(), outsideSamples(), overlappingSamples())
}

func TestSamples(t *testing.T) {
	for _, x := range samples() {
		if spot, e := insert.Find(x.m, x.q); spot != x.spot || e != api.OK {
			t.Errorf("%s: Find = %v, %d", x.name, spot, e)
		}
		n, e := insert.Add(x.m, x.q)
		if !slices.Equal(n.T, x.t) || !slices.Equal(n.S, x.s) || e != x.e {
			t.Errorf("%s: Add = %v, %d", x.name, n, e)
		}
		if want := append(slices.Clone(x.m.P), x.q); e == api.OK && !slices.Equal(n.P, want) || e != api.OK && !isNone(n) {
			t.Errorf("%s: Add = %v, %d", x.name, n, e)
		}
		check(t, x.m, x.q)
	}
}

// Each triangle of a small grid, with each point in it and around it.
func TestAllTriangles(t *testing.T) {
	const n = 4
	var f found
	for i := range n * n * n * n * n * n {
		p := points(i%n, i/n%n, i/n/n%n, i/n/n/n%n, i/n/n/n/n%n, i/n/n/n/n/n)
		if x, ok := fill.Tri(p, 0, 1, 2); ok {
			f.add(checkGrid(t, closed(p, []api.Tri{x})))
		}
	}
	if f.places < 9000 || f.rim < 500 || f.tris < 500 || f.none < 9000 {
		t.Error(f)
	}
}

func TestDrawn(t *testing.T) {
	r := rand.New(rand.NewPCG(14, 1))
	var f found
	for range 60 {
		f.add(checkGrid(t, made(t, drawn(r, 1+r.IntN(16), 4+r.IntN(9)))))
	}
	if f.places < 300 || f.inner < 300 || f.rim < 300 || f.stay < 10 || f.tris < 300 || f.none < 300 {
		t.Error(f)
	}
}

func TestOverlapping(t *testing.T) {
	r := rand.New(rand.NewPCG(14, 2))
	var f found
	for range 300 {
		f.add(checkGrid(t, sheets(r, 3+r.IntN(7), 3+r.IntN(7))))
	}
	for range 100 {
		one, other := made(t, drawn(r, 1+r.IntN(10), 4+r.IntN(5))), made(t, drawn(r, 1+r.IntN(10), 4+r.IntN(5)))
		f.add(checkGrid(t, laidOver(r, one, other)))
	}
	if f.inner < 300 || f.rim < 300 || f.stay < 10 || f.tris < 300 {
		t.Error(f)
	}
}

// laidOver has the triangles and segments of both meshes, and the points of both, mixed.
func laidOver(r *rand.Rand, m, n api.Mesh) api.Mesh {
	names := r.Perm(len(m.P) + len(n.P))
	out := api.Mesh{P: make([]api.Point, len(names))}
	for i, name := range names {
		out.P[name] = slices.Concat(m.P, n.P)[i]
	}
	for i, part := range []api.Mesh{m, n} {
		to := names[i*len(m.P):]
		for _, x := range part.T {
			out.T = append(out.T, begun(to[x.A], to[x.B], to[x.C]))
		}
		for _, s := range part.S {
			out.S = append(out.S, ordered(seg(to[s.A], to[s.B])))
		}
	}
	out.T, out.S = sortTris(out.T), sortSegs(out.S)
	return out
}

// apart tells whether x has no edge in the same direction as one of l.
func apart(l []api.Tri, x api.Tri) bool {
	for _, y := range l {
		for _, s := range sides(y) {
			if slices.Contains(sides(x), s) {
				return false
			}
		}
	}
	return true
}

// All choices of triangles between few points that fill.Check takes, whether they overlap or not; with the rims alone as segments, and with all edges.
func TestAllChoices(t *testing.T) {
	var f found
	for _, p := range [][]api.Point{
		points(0, 0, 4, 0, 4, 4, 0, 4, 2, 2),
		points(0, 0, 4, 0, 2, 2, 1, 3, 0, 4),
		points(0, 0, 2, 0, 4, 0, 2, 2, 2, -2),
		points(0, 0, 4, 0, 4, 4, 0, 4, 0, 0),
		points(2, 0, 4, 2, 2, 4, 0, 2, 2, 2, 4, 4),
	} {
		var grow func(l []api.Tri, ahead int)
		n := len(p)
		grow = func(l []api.Tri, ahead int) {
			m := closed(p, l)
			f.add(checkGrid(t, m))
			f.add(checkGrid(t, closed(p, l, edges(m)...)))
			for i := ahead; i < n*n*n; i++ {
				x, ok := fill.Tri(p, i/n/n, i/n%n, i%n)
				if ok && x == tri(i/n/n, i/n%n, i%n) && apart(l, x) {
					grow(append(slices.Clone(l), x), i+1)
				}
			}
		}
		grow(nil, 0)
	}
	if f.inner < 500 || f.rim < 500 || f.stay < 500 || f.tris < 500 || f.none < 500 {
		t.Error(f)
	}
}

// turned is above 0 for a path from a via b to c that turns left, in a small grid.
func turned(a, b, c api.Point) int {
	return (b.X-a.X)*(c.Y-a.Y) - (b.Y-a.Y)*(c.X-a.X)
}

// overlap tells whether each side of both triangles has some of the other one on its left.
func overlap(p []api.Point, x, y api.Tri) bool {
	for range 2 {
		for _, s := range sides(x) {
			if max(turned(p[s.A], p[s.B], p[y.A]), turned(p[s.A], p[s.B], p[y.B]), turned(p[s.A], p[s.B], p[y.C])) <= 0 {
				return false
			}
		}
		x, y = y, x
	}
	return true
}

// checkCoverage wants no two triangles to overlap, each point to be used, and each segment of p to be a row of edges that stay.
func checkCoverage(t *testing.T, p api.Poly, m api.Mesh) {
	t.Helper()
	used := map[int]int{}
	for i, x := range m.T {
		for _, y := range m.T[:i] {
			if overlap(m.P, x, y) {
				t.Fatalf("%v and %v of %v overlap", x, y, m)
			}
		}
		used[x.A]++
		used[x.B]++
		used[x.C]++
	}
	if len(used) != len(m.P) {
		t.Fatalf("%d points of %v are in triangles", len(used), m)
	}
	rows := 0
	for _, s := range slices.Concat(p.L, p.I) {
		var on []int
		for i, q := range m.P {
			if between(p.P[s.A], p.P[s.B], q) || i == s.A || i == s.B {
				on = append(on, i)
			}
		}
		slices.SortFunc(on, func(i, k int) int {
			return slices.Compare([]int{m.P[i].X, m.P[i].Y}, []int{m.P[k].X, m.P[k].Y})
		})
		for i := 1; i < len(on); i++ {
			if !slices.Contains(m.S, ordered(seg(on[i-1], on[i]))) {
				t.Fatalf("%v is no row of segments of %v", s, m)
			}
			rows++
		}
	}
	if rows != len(m.S) {
		t.Fatalf("%v has more segments than those of %v", m, p)
	}
}

// gaps has all points of the grid that are in m, but none of its own.
func gaps(t *testing.T, m api.Mesh) []api.Point {
	t.Helper()
	low, high := box(m)
	var l []api.Point
	for x := low.X; x <= high.X; x++ {
		for y := low.Y; y <= high.Y; y++ {
			spot, e := insert.Find(m, at(x, y))
			if e != api.OK {
				t.Fatal(m, x, y, e)
			}
			if spot.Kind == api.SpotEdge || spot.Kind == api.SpotTri {
				l = append(l, at(x, y))
			}
		}
	}
	return l
}

// P6: one point after the other, until the grid has no more: then each triangle is as small as can be, and there are as many as their area tells.
func TestFullGrid(t *testing.T) {
	r := rand.New(rand.NewPCG(14, 3))
	for range 30 {
		p := drawn(r, 1+r.IntN(10), 4+r.IntN(5))
		m := made(t, p)
		checkCoverage(t, p, m)
		twice := whole(m)
		l := gaps(t, m)
		r.Shuffle(len(l), func(i, k int) { l[i], l[k] = l[k], l[i] })
		for i, q := range l {
			check(t, m, q)
			n, e := insert.Add(m, q)
			if e != api.OK {
				t.Fatalf("Add(%v, %v): %d", m, q, e)
			}
			m = n
			if i%8 == 0 {
				checkCoverage(t, p, m)
			}
		}
		checkCoverage(t, p, m)
		if left := gaps(t, m); len(left) > 0 || int64(len(m.T)) != twice.Int64() {
			t.Fatalf("%v are left of %v, which has %d triangles and twice the area %v", left, m, len(m.T), twice)
		}
	}
}

// Whatever is added, what was in the mesh, or outside, is so afterwards.
func TestNothingElseMoves(t *testing.T) {
	r := rand.New(rand.NewPCG(14, 4))
	for range 40 {
		m := made(t, drawn(r, 1+r.IntN(12), 4+r.IntN(7)))
		low, high := box(m)
		l := gaps(t, m)
		for range min(len(l), 3) {
			n, _ := insert.Add(m, l[r.IntN(len(l))])
			for x := low.X - 1; x <= high.X+1; x++ {
				for y := low.Y - 1; y <= high.Y+1; y++ {
					was, _ := insert.Find(m, at(x, y))
					is, _ := insert.Find(n, at(x, y))
					if (was.Kind == api.SpotNone) != (is.Kind == api.SpotNone) || was.Kind == api.SpotPlace && is != was {
						t.Fatalf("%v is %v in %v, and %v in %v", at(x, y), was, m, is, n)
					}
				}
			}
		}
	}
}

// Numbers tell which spot comes first; places do not, so it stays when all is moved, or turned.
func TestMoved(t *testing.T) {
	r := rand.New(rand.NewPCG(14, 5))
	move := func(q api.Point) api.Point { return at(q.X-1000, q.Y+api.Bound-100) }
	quarter := func(q api.Point) api.Point { return at(-q.Y, q.X) }
	for range 40 {
		m := sheets(r, 3+r.IntN(7), 3+r.IntN(7))
		low, high := box(m)
		for _, way := range []func(api.Point) api.Point{move, quarter} {
			n := clone(m)
			n.P = each(m.P, way)
			for x := low.X - 1; x <= high.X+1; x++ {
				for y := low.Y - 1; y <= high.Y+1; y++ {
					was, _ := insert.Find(m, at(x, y))
					is, e := insert.Find(n, way(at(x, y)))
					if was != is || e != api.OK {
						t.Fatalf("%v is %v in %v, and %v, %d in %v", at(x, y), was, m, is, e, n)
					}
				}
			}
		}
	}
}

// near has points on, and beside, the points, the edges and the middles of m.
func near(r *rand.Rand, m api.Mesh) []api.Point {
	l := slices.Clone(m.P)
	for _, s := range edges(m) {
		a, b := m.P[s.A], m.P[s.B]
		n := common(b.X-a.X, b.Y-a.Y)
		k := r.IntN(n + 1)
		l = append(l, at(a.X+(b.X-a.X)/n*k, a.Y+(b.Y-a.Y)/n*k))
	}
	for _, x := range m.T {
		a, b, c := m.P[x.A], m.P[x.B], m.P[x.C]
		l = append(l, at((a.X+b.X+c.X)/3, (a.Y+b.Y+c.Y)/3))
	}
	for i := range len(l) {
		q := at(l[i].X+r.IntN(3)-1, l[i].Y+r.IntN(3)-1)
		if max(q.X, q.Y, -q.X, -q.Y) <= api.Bound {
			l = append(l, q)
		}
	}
	return l
}

// common is the greatest common divisor of two numbers that are not both 0.
func common(a, b int) int {
	for b != 0 {
		a, b = b, a%b
	}
	return max(a, -a)
}

// Points as far as they fit, on edges and as near to these as can be.
func TestGreatPlaces(t *testing.T) {
	r := rand.New(rand.NewPCG(14, 6))
	var f found
	for i := range 40 {
		m := made(t, drawn(r, 1+r.IntN(16), 1<<20))
		by := []int{1, api.Scale, 1 << 12, (1 << 12) - 1}[i%4]
		n, e := insert.Grow(m, by)
		if e != api.OK {
			t.Fatal(m, by, e)
		}
		for _, q := range near(r, n) {
			f.add(check(t, n, q))
		}
	}
	if f.places < 200 || f.inner < 200 || f.rim < 100 || f.stay < 10 || f.tris < 200 || f.none < 20 {
		t.Error(f)
	}
}

func TestCorners(t *testing.T) {
	const b = api.Bound
	m := closed(points(-b, -b, b, -b, b, b, -b, b), tris(0, 1, 2, 0, 2, 3))
	for _, x := range []struct {
		q    api.Point
		spot api.Spot
	}{
		{at(0, 0), onEdge(0, 2)}, {at(b-1, b-1), onEdge(0, 2)}, {at(1-b, 1-b), onEdge(0, 2)},
		{at(0, -1), inTri(0)}, {at(0, 1), inTri(1)}, {at(b-1, b-2), inTri(0)}, {at(b-2, b-1), inTri(1)}, {at(1-b, 2-b), inTri(1)},
		{at(b, b-1), onEdge(1, 2)}, {at(b-1, b), onEdge(2, 3)}, {at(-b, 1-b), onEdge(0, 3)}, {at(1-b, -b), onEdge(0, 1)},
		{at(b, b), inPlace(2)}, {at(-b, -b), inPlace(0)},
	} {
		if spot, e := insert.Find(m, x.q); spot != x.spot || e != api.OK {
			t.Errorf("%v: %v, %d", x.q, spot, e)
		}
		check(t, m, x.q)
	}
	// One row of points that is as steep as can be, beside one that is less so by the least.
	thin := closed(points(-b, -b, b, b-1, b, b), tris(0, 1, 2))
	for _, q := range points(0, 0, 0, -1, 1, 0, b-1, b-2, b-1, b-1, b, b-1, 1-b, 1-b, -1, -1) {
		check(t, thin, q)
	}
}

// What does not fit is told ahead of all else, also where it is a point of the mesh, or wraps round to one.
func TestPointsThatDoNotFit(t *testing.T) {
	m := and(squareOf(), api.Bound+1, 0, 0, math.MinInt, math.MaxInt, math.MaxInt, 1<<33, 1<<33)
	const b = api.Bound + 1
	checkWrong(t, m, points(b, 0, -b, 0, 0, b, 0, -b, b, b, math.MaxInt, 2, 2, math.MinInt, 0, math.MinInt, math.MaxInt, math.MaxInt, 1<<33, 1<<33, 1<<62, 1<<62)...)
	// Points beyond the bounds that are in no triangle are no reason to refuse the mesh.
	for _, q := range points(2, 2, 3, 1, 4, 1, 4, 4, 5, 5, api.Bound, 0) {
		check(t, m, q)
	}
}

func growths() []int {
	l := []int{math.MinInt, math.MinInt + 1, -1 << 33, -api.Bound, -2, -1, 0, 1, 2, 3, 5, 63, api.Scale, 65, 4095, 4096, 4097}
	for i := 13; i < 63; i++ {
		l = append(l, 1<<i-1, 1<<i, 1<<i+1)
	}
	return append(l, math.MaxInt-1, math.MaxInt)
}

func TestGrow(t *testing.T) {
	grown, refused := 0, 0
	for _, far := range []int{1, 2, 3, 1 << 12, 1 << 20, api.Bound/api.Scale - 1, api.Bound / api.Scale, api.Bound/api.Scale + 1, api.Bound/3 - 1, api.Bound / 3, api.Bound/3 + 1, 1 << 31, 1<<31 + 1, api.Bound - 1, api.Bound} {
		for _, p := range [][]api.Point{points(0, 0, far, 0, 0, 1), points(0, 0, -far, 0, 0, -1), points(0, 0, 1, 0, 0, far), points(0, 0, 1, 0, 1, -far)} {
			x, _ := fill.Tri(p, 0, 1, 2)
			for _, by := range growths() {
				if checkGrow(t, closed(p, []api.Tri{x}), by) {
					grown++
				} else {
					refused++
				}
			}
		}
	}
	if grown < 500 || refused < 500 {
		t.Error(grown, refused)
	}
}

// What is at the origin fits whatever it is multiplied by, but the factor is held to its bounds there too.
func TestGrowOrigin(t *testing.T) {
	for _, m := range []api.Mesh{{}, {P: points(0, 0)}, {P: points(0, 0, 0, 0)}} {
		for _, by := range growths() {
			if grew := checkGrow(t, m, by); grew != (by >= 1 && by <= api.Bound) {
				t.Error(m, by, grew)
			}
		}
	}
}

// A point that does not fit is a reason, also one that is in no triangle, whatever its product wraps round to.
func TestGrowPointsInNoTriangle(t *testing.T) {
	for _, c := range []int{api.Bound, api.Bound + 1, 1 << 33, 1 << 48, 1 << 62, math.MaxInt, -api.Bound, -api.Bound - 1, -1 << 33, math.MinInt, math.MinInt + 1} {
		for _, by := range growths() {
			if fits := c >= -api.Bound && c <= api.Bound; checkGrow(t, and(squareOf(), c, 1), by) != (fits && by == 1) {
				t.Error(c, by)
			}
			checkGrow(t, and(squareOf(), 1, c), by)
			checkGrow(t, api.Mesh{P: points(0, c)}, by)
		}
	}
}

// On the finer grid all is where it was, and has the numbers that it had; twice is by the product.
func TestGrowKeeps(t *testing.T) {
	r := rand.New(rand.NewPCG(14, 7))
	for range 30 {
		m := made(t, drawn(r, 1+r.IntN(10), 4+r.IntN(6)))
		one, e := insert.Grow(m, 1)
		if !equal(one, m) || e != api.OK {
			t.Fatalf("Grow(%v, 1) = %v, %d", m, one, e)
		}
		by, more := 1+r.IntN(99), 1+r.IntN(99)
		n, _ := insert.Grow(m, by)
		twice, _ := insert.Grow(n, more)
		if at, e := insert.Grow(m, by*more); !equal(twice, at) || e != api.OK {
			t.Fatalf("Grow(%v, %d) is not Grow twice, by %d and %d", m, by*more, by, more)
		}
		low, high := box(m)
		for x := low.X - 1; x <= high.X+1; x++ {
			for y := low.Y - 1; y <= high.Y+1; y++ {
				was, _ := insert.Find(m, at(x, y))
				if is, e := insert.Find(n, at(by*x, by*y)); was != is || e != api.OK {
					t.Fatalf("%v is %v in %v, and, by %d, %v, %d", at(x, y), was, m, by, is, e)
				}
			}
		}
	}
}

// strip is a strip of n triangles, whose rims stay.
func strip(n int) api.Mesh {
	var p []api.Point
	var l []api.Tri
	for i := range n + 2 {
		p = append(p, at(2*i, 8*(i%2)))
	}
	for i := range n {
		x := tri(i, i+1, i+2)
		if i%2 == 0 {
			x = tri(i, i+2, i+1)
		}
		l = append(l, x)
	}
	return closed(p, l)
}

// fan has n triangles around its first point, which is inside.
func fan(n int) api.Mesh {
	p := points(0, 1)
	var l []api.Tri
	for i := range n - 1 {
		p = append(p, at(i-n/2, 2*(i-n/2)*(i-n/2)-n*n))
		if i > 0 {
			l = append(l, tri(0, i, i+1))
		}
	}
	p = append(p, at(0, 2*n*n))
	return closed(p, append(l, tri(0, n-1, n), tri(0, n, 1)))
}

func TestGreatMeshes(t *testing.T) {
	for _, m := range []api.Mesh{strip(1), strip(2), strip(5), strip(40), fan(5), fan(12)} {
		if e := fill.Check(m); e != api.OK {
			t.Fatal(m, e)
		}
		checkGrid(t, m)
	}
	m := strip(1 << 14)
	for _, q := range points(0, 0, 1, 4, 2, 0, 1<<14, 4, 1<<14+1, 4, 1<<15, 0, 1<<15-3, 4, 1<<15+2, 8, -1, 4) {
		check(t, m, q)
	}
	checkGrow(t, m, 1<<16)
	f := fan(1 << 12)
	for _, q := range points(0, 1, 0, 2, 0, 0, 1, 0, -1, 0, 0, -1<<23, 1, 1, -7, -100) {
		check(t, f, q)
	}
}

func TestRefused(t *testing.T) {
	m := squareOf()
	for _, x := range []struct {
		name string
		m    api.Mesh
	}{
		{"triangles out of order", api.Mesh{P: m.P, T: tris(0, 2, 3, 0, 1, 2), S: m.S}},
		{"a triangle twice", api.Mesh{P: m.P, T: tris(0, 1, 2, 0, 1, 2, 0, 2, 3), S: m.S}},
		{"a clockwise triangle", api.Mesh{P: m.P, T: tris(0, 1, 2, 0, 3, 2), S: m.S}},
		{"not begun by the smallest", api.Mesh{P: m.P, T: tris(0, 1, 2, 2, 3, 0), S: m.S}},
		{"a point", api.Mesh{T: tris(0, 0, 0)}},
		{"a number below 0", api.Mesh{P: m.P, T: tris(-1, 1, 2, 0, 2, 3), S: m.S}},
		{"a great number", api.Mesh{P: m.P, T: tris(0, 1, 2, 0, 2, math.MaxInt), S: m.S}},
		{"a point that is not there", api.Mesh{P: m.P[:3], T: m.T, S: m.S}},
		{"a point that does not fit", api.Mesh{P: points(0, 0, 4, 0, api.Bound+1, 4, 0, 4), T: m.T, S: m.S}},
		{"collinear", api.Mesh{P: points(0, 0, 2, 2, 4, 4, 0, 4), T: m.T, S: m.S}},
		{"S without one", api.Mesh{P: m.P, T: m.T, S: m.S[1:]}},
		{"no S", api.Mesh{P: m.P, T: m.T}},
		{"S out of order", api.Mesh{P: m.P, T: m.T, S: segs(0, 3, 0, 1, 1, 2, 2, 3)}},
		{"one of S twice", api.Mesh{P: m.P, T: m.T, S: segs(0, 1, 0, 1, 0, 3, 1, 2, 2, 3)}},
		{"one of S the other way round", api.Mesh{P: m.P, T: m.T, S: segs(0, 1, 0, 3, 1, 2, 2, 0, 2, 3)}},
		{"one of S that is no edge", api.Mesh{P: m.P, T: m.T, S: segs(0, 1, 0, 3, 1, 2, 1, 3, 2, 3)}},
		{"an edge twice", api.Mesh{P: m.P, T: tris(0, 1, 2, 0, 1, 3), S: segs(0, 1, 0, 2, 0, 3, 1, 2, 1, 3)}},
		{"S alone", api.Mesh{S: segs(0, 0)}},
	} {
		t.Run(x.name, func(t *testing.T) { checkRefused(t, x.m, x.m.P...) })
	}
}

// Each mesh with one thing spoiled is refused, or taken as it then is.
func TestSpoiled(t *testing.T) {
	r := rand.New(rand.NewPCG(14, 8))
	refused, taken := 0, 0
	for range 40 {
		m := made(t, drawn(r, 1+r.IntN(8), 8))
		for range 12 {
			if n := spoiled(r, m); fill.Check(n) == api.OK {
				taken++
				checkGrid(t, n)
				checkGrow(t, n, 1+r.IntN(99))
			} else {
				refused++
				checkRefused(t, n, n.P...)
			}
		}
	}
	if refused < 200 || taken < 30 {
		t.Error(refused, taken)
	}
}

func spoiled(r *rand.Rand, m api.Mesh) api.Mesh {
	m = clone(m)
	i, k := r.IntN(len(m.T)), r.IntN(len(m.S))
	x, s := m.T[i], m.S[k]
	switch r.IntN(8) {
	case 0:
		m.T[i] = []api.Tri{tri(x.B, x.C, x.A), tri(x.A, x.C, x.B), tri(x.A, x.B, r.IntN(len(m.P)))}[r.IntN(3)]
	case 1:
		m.T = slices.Delete(m.T, i, i+1)
	case 2:
		m.T = slices.Insert(m.T, i, x)
	case 3:
		m.S[k] = seg(s.B, s.A)
	case 4:
		m.S = slices.Delete(m.S, k, k+1)
	case 5:
		m.P[r.IntN(len(m.P))] = at(r.IntN(9), r.IntN(9))
	case 6:
		m.S = sortSegs(append(m.S, ordered(sides(x)[r.IntN(3)])))
	case 7:
		m.P = append(m.P, at(r.IntN(9), r.IntN(9)))
	}
	return m
}

// R1: what is wrong with the mesh or the point is told ahead of where the point lies.
func TestFirstError(t *testing.T) {
	m := and(squareOf(), api.Bound+1, 0)
	wrong := api.Mesh{P: m.P, T: m.T}
	for _, x := range []struct {
		q    api.Point
		want api.Errno
	}{{at(4, 4), api.ErrTwice}, {at(9, 9), api.ErrNone}, {at(2, 2), api.OK}, {at(api.Bound+1, 0), api.ErrArg}} {
		if n, e := insert.Add(wrong, x.q); !isNone(n) || e != api.ErrArg {
			t.Error(x.q, n, e)
		}
		if _, e := insert.Add(m, x.q); e != x.want {
			t.Error(x.q, e)
		}
	}
}

// set makes all elements x, the ones behind the end too.
func set[T any](l []T, x T) {
	l = l[:cap(l)]
	for i := range l {
		l[i] = x
	}
}

func setAll(m api.Mesh) {
	set(m.P, at(7, 7))
	set(m.T, tri(7, 7, 7))
	set(m.S, seg(7, 7))
}

// roomy is m with room behind the end of each list, and what is there.
func roomy(m api.Mesh) (api.Mesh, api.Mesh) {
	n := api.Mesh{P: append(slices.Clone(m.P), points(9, 9, 8, 8)...), T: append(slices.Clone(m.T), tris(9, 9, 9, 8, 8, 8)...), S: append(slices.Clone(m.S), segs(9, 9, 8, 8)...)}
	return api.Mesh{P: n.P[:len(m.P)], T: n.T[:len(m.T)], S: n.S[:len(m.S)]}, n
}

// R2: results are the caller's own; what is behind the end of an argument is neither read nor written.
func TestResultsAreNewMemory(t *testing.T) {
	for _, x := range []api.Mesh{squareOf(), squareOf(seg(0, 2)), {}} {
		m, all := roomy(x)
		kept := clone(all)
		calls := []func() (api.Mesh, api.Errno){
			func() (api.Mesh, api.Errno) { return insert.Add(m, at(2, 2)) },
			func() (api.Mesh, api.Errno) { return insert.Add(m, at(3, 1)) },
			func() (api.Mesh, api.Errno) { return insert.Add(m, at(4, 1)) },
			func() (api.Mesh, api.Errno) { return insert.Grow(m, 1) },
			func() (api.Mesh, api.Errno) { return insert.Grow(m, 64) },
		}
		for i, call := range calls {
			want, wantE := call()
			want = clone(want)
			one, _ := call()
			two, e := call()
			setAll(one)
			if !equal(two, want) || e != wantE {
				t.Errorf("results of call %d share memory: %v", i, two)
			}
			setAll(two)
			if !equal(all, kept) {
				t.Errorf("call %d: %v became %v", i, kept, all)
			}
		}
	}
}

// The lists of one result share no memory: what is appended to one does not show in another.
func TestListsOfOneResult(t *testing.T) {
	m := squareOf(seg(0, 2))
	for _, q := range points(2, 2, 3, 1, 4, 1) {
		n, _ := insert.Add(m, q)
		want, _ := wantAdd(m, q)
		_ = append(n.P, at(7, 7))
		_ = append(n.T, tri(7, 7, 7))
		_ = append(n.S, seg(7, 7))
		set(n.P, at(7, 7))
		if !slices.Equal(n.T, want.T) || !slices.Equal(n.S, want.S) {
			t.Error(q, n)
		}
	}
}

// R4: what was asked ahead changes no answer.
func TestSameAgain(t *testing.T) {
	list := samples()
	for _, x := range list {
		for _, y := range list {
			for _, s := range []sample{x, y, x} {
				spot, e := insert.Find(s.m, s.q)
				n, eAdd := insert.Add(s.m, s.q)
				if spot != s.spot || e != api.OK || eAdd != s.e || !slices.Equal(n.T, s.t) || !slices.Equal(n.S, s.s) {
					t.Fatal(s.name, spot, e, n, eAdd)
				}
			}
		}
	}
}

// R6: nil is as empty as others are.
func TestNilAndEmpty(t *testing.T) {
	m := squareOf()
	for _, p := range [][]api.Point{nil, {}, points(2, 2)[:0]} {
		for _, l := range [][]api.Tri{nil, {}, tris(0, 1, 2)[:0]} {
			for _, s := range [][]api.Seg{nil, {}, segs(0, 1)[:0]} {
				for _, q := range points(0, 0, 2, 2, 4, 4) {
					check(t, api.Mesh{P: p, T: l, S: s}, q)
					check(t, api.Mesh{P: m.P, T: l, S: s}, q)
				}
				checkGrow(t, api.Mesh{P: p, T: l, S: s}, 64)
				checkGrow(t, api.Mesh{P: m.P, T: l, S: s}, 64)
				checkRefused(t, api.Mesh{P: m.P, T: m.T, S: s})
				checkRefused(t, api.Mesh{P: p, T: m.T, S: m.S})
			}
			checkRefused(t, api.Mesh{P: m.P, T: l, S: m.S})
		}
	}
}

// grown reads a mesh from bytes: points in a small grid, then triangles, as far as they go beside each other, and whether their first edge stays.
func grown(b []byte) api.Mesh {
	var p []api.Point
	for len(b) > 0 && b[0] < 49 && len(p) < 12 {
		p = append(p, at(int(b[0]%7), int(b[0]/7)))
		b = b[1:]
	}
	var l []api.Tri
	var stay []api.Seg
	taken := map[api.Seg]int{}
	for ; len(b) >= 3; b = b[3:] {
		x, ok := fill.Tri(p, int(b[0]%16), int(b[1]%16), int(b[2]%16))
		if !ok || taken[seg(x.A, x.B)]+taken[seg(x.B, x.C)]+taken[seg(x.C, x.A)] > 0 {
			continue
		}
		l = append(l, x)
		for _, s := range sides(x) {
			taken[s]++
		}
		if b[0] >= 128 {
			stay = append(stay, seg(x.A, x.B))
		}
	}
	m := closed(p, l, stay...)
	for i, s := range m.S {
		m.S[i] = ordered(s)
	}
	m.S = sortSegs(m.S)
	return m
}

func FuzzMesh(f *testing.F) {
	f.Add([]byte{0, 6, 48, 42, 96, 2, 0, 0, 1, 2, 0, 2, 3}, 64)
	f.Add([]byte{22, 15, 30, 37, 24, 112, 0, 0, 0, 1, 2, 0, 2, 3, 1, 4, 3}, -1)
	f.Add([]byte{0, 6, 48, 42, 24, 48, 128, 1, 2, 0, 2, 3, 4, 0, 1, 130, 4, 5}, 1<<30)
	f.Fuzz(func(t *testing.T, b []byte, by int) {
		m := grown(b[:min(len(b), 100)])
		checkGrow(t, m, by)
		if len(m.P) > 0 {
			checkGrid(t, m)
		}
		for i := range m.T {
			n := clone(m)
			n.T[i].B, n.T[i].C = n.T[i].C, n.T[i].B
			checkRefused(t, n, n.P...)
		}
	})
}
