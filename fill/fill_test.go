package fill_test

import (
	"math"
	"math/big"
	"math/rand/v2"
	"slices"
	"testing"

	"parquet/api"
	"parquet/fill"
	"parquet/valid"
)

// The calls that the chapter lists, with their exact signatures: a change of one does not compile.
var (
	_ func(api.Poly) ([]api.Seg, api.Errno)            = fill.Edges
	_ func([]api.Point, int, int, int) (api.Tri, bool) = fill.Tri
	_ func(api.Poly) (api.Mesh, api.Errno)             = fill.Make
	_ func(api.Mesh) api.Errno                         = fill.Check
	_ func([]api.Tri) [][]int                          = fill.Faces
)

const place = api.MaxPlace

func at(x, y int) api.Point {
	return api.Point{X: x, Y: y}
}

func points(xy ...int) []api.Point {
	var p []api.Point
	for i := 0; i < len(xy); i += 2 {
		p = append(p, at(xy[i], xy[i+1]))
	}
	return p
}

// times is p on a grid that is k times as fine.
func times(k int, p api.Point) api.Point {
	return at(k*p.X, k*p.Y)
}

func sum(l ...api.Point) api.Point {
	var s api.Point
	for _, p := range l {
		s = at(s.X+p.X, s.Y+p.Y)
	}
	return s
}

func each(p []api.Point, f func(api.Point) api.Point) []api.Point {
	var out []api.Point
	for _, q := range p {
		out = append(out, f(q))
	}
	return out
}

func seg(a, b int) api.Seg {
	return api.Seg{A: a, B: b}
}

// segs has a segment for each two numbers.
func segs(ends ...int) []api.Seg {
	var l []api.Seg
	for i := 0; i < len(ends); i += 2 {
		l = append(l, seg(ends[i], ends[i+1]))
	}
	return l
}

func tri(a, b, c int) api.Tri {
	return api.Tri{A: a, B: b, C: c}
}

// tris has a triangle for each three numbers.
func tris(corners ...int) []api.Tri {
	var l []api.Tri
	for i := 0; i < len(corners); i += 3 {
		l = append(l, tri(corners[i], corners[i+1], corners[i+2]))
	}
	return l
}

// around has the segments of these rings.
func around(rings ...[]int) []api.Seg {
	var l []api.Seg
	for _, ring := range rings {
		for i, a := range ring {
			l = append(l, seg(a, ring[(i+1)%len(ring)]))
		}
	}
	return l
}

// rising has the numbers from to until - 1.
func rising(from, until int) []int {
	var l []int
	for i := from; i < until; i++ {
		l = append(l, i)
	}
	return l
}

func clone(p api.Poly) api.Poly {
	return api.Poly{P: slices.Clone(p.P), L: slices.Clone(p.L), I: slices.Clone(p.I)}
}

func equal(p, q api.Poly) bool {
	return slices.Equal(p.P, q.P) && slices.Equal(p.L, q.L) && slices.Equal(p.I, q.I)
}

func cloneMesh(m api.Mesh) api.Mesh {
	return api.Mesh{P: slices.Clone(m.P), T: slices.Clone(m.T), S: slices.Clone(m.S)}
}

func equalMesh(m, n api.Mesh) bool {
	return slices.Equal(m.P, n.P) && slices.Equal(m.T, n.T) && slices.Equal(m.S, n.S)
}

// with is p with more at the ends of its lists.
func with(p api.Poly, more []api.Point, l, i []api.Seg) api.Poly {
	return api.Poly{P: slices.Concat(p.P, more), L: slices.Concat(p.L, l), I: slices.Concat(p.I, i)}
}

// square has the corners 0 to 3.
func square() api.Poly {
	return api.Poly{P: points(0, 0, 4, 0, 4, 4, 0, 4), L: around(rising(0, 4))}
}

// What the chapter says, told another way: by plain products, with segments counted above a place, and each edge held against all.

// turn is twice the area of the triangle a b c, above 0 to the left; for points of inputs, or three times that far.
func turn(a, b, c api.Point) int {
	return (b.X-a.X)*(c.Y-a.Y) - (b.Y-a.Y)*(c.X-a.X)
}

// between tells whether q is inside the segment from a to b.
func between(a, b, q api.Point) bool {
	return turn(a, b, q) == 0 && (q.X-a.X)*(q.X-b.X)+(q.Y-a.Y)*(q.Y-b.Y) < 0
}

// opposite tells whether c and d are on different sides of the line through a and b.
func opposite(a, b, c, d api.Point) bool {
	one, other := turn(a, b, c), turn(a, b, d)
	return one > 0 && other < 0 || one < 0 && other > 0
}

// meets tells whether the segments from a to b and from c to d, which are not the same, have more in common than one end of both.
func meets(a, b, c, d api.Point) bool {
	return opposite(a, b, c, d) && opposite(c, d, a, b) || between(a, b, c) || between(a, b, d) || between(c, d, a) || between(c, d, b)
}

// above counts the segments above q; false if it is on one.
func above(p []api.Point, l []api.Seg, q api.Point) (int, bool) {
	n := 0
	for _, s := range l {
		a, b := p[s.A], p[s.B]
		if a.X > b.X {
			a, b = b, a
		}
		if a == q || b == q || between(a, b, q) {
			return 0, false
		}
		if a.X <= q.X && q.X < b.X && turn(a, b, q) < 0 {
			n++
		}
	}
	return n, true
}

// enclosed tells whether the mean of these points is within the loops l.
func enclosed(p []api.Point, l []api.Seg, corners ...api.Point) bool {
	k := len(corners)
	n, ok := above(each(p, func(q api.Point) api.Point { return times(k, q) }), l, sum(corners...))
	return ok && n%2 == 1
}

func isRight(p api.Poly) bool {
	f, e := valid.First(p)
	return f.Kind == api.FlawNone && e == api.OK
}

// wantS has the segments of p, each from its smaller end, in order.
func wantS(p api.Poly) []api.Seg {
	var l []api.Seg
	for a := range p.P {
		for b := a + 1; b < len(p.P); b++ {
			if has(p.L, seg(a, b)) || has(p.I, seg(a, b)) {
				l = append(l, seg(a, b))
			}
		}
	}
	return l
}

// has tells whether s is in l, in either direction.
func has(l []api.Seg, s api.Seg) bool {
	return slices.Contains(l, s) || slices.Contains(l, seg(s.B, s.A))
}

// wantMay tells whether s goes into p beside the edges l.
func wantMay(p api.Poly, l []api.Seg, s api.Seg) bool {
	a, b := p.P[s.A], p.P[s.B]
	for _, q := range p.P {
		if between(a, b, q) {
			return false
		}
	}
	for _, r := range l {
		if r == s || meets(a, b, p.P[r.A], p.P[r.B]) {
			return false
		}
	}
	return enclosed(p.P, p.L, a, b)
}

// wantEdges is for a right p.
func wantEdges(p api.Poly) []api.Seg {
	l := wantS(p)
	for a := range p.P {
		for b := a + 1; b < len(p.P); b++ {
			if wantMay(p, l, seg(a, b)) {
				l = append(l, seg(a, b))
			}
		}
	}
	var sorted []api.Seg
	for a := range p.P {
		for b := a + 1; b < len(p.P); b++ {
			if slices.Contains(l, seg(a, b)) {
				sorted = append(sorted, seg(a, b))
			}
		}
	}
	return sorted
}

// holds tells whether q is in the triangle a b c, or on its boundary, whichever way it turns.
func holds(a, b, c, q api.Point) bool {
	s, r, u := turn(a, b, q), turn(b, c, q), turn(c, a, q)
	return min(s, r, u) >= 0 || max(s, r, u) <= 0
}

// wantT looks at each three points between which all edges are there.
func wantT(p api.Poly, edges []api.Seg) []api.Tri {
	var l []api.Tri
	for a := range p.P {
		for _, x := range corners(p, edges, a) {
			i, k, j := p.P[a], p.P[x.B], p.P[x.C]
			alone := true
			for n, q := range p.P {
				alone = alone && (n == a || n == x.B || n == x.C || !holds(i, k, j, q))
			}
			if alone && enclosed(p.P, p.L, i, k, j) {
				l = append(l, x)
			}
		}
	}
	return l
}

// corners has all triangles with a as their smallest point, and edges all around, by rising B, then C, counterclockwise.
func corners(p api.Poly, edges []api.Seg, a int) []api.Tri {
	var l []api.Tri
	for b := a + 1; b < len(p.P); b++ {
		for c := a + 1; c < len(p.P); c++ {
			if has(edges, seg(a, b)) && has(edges, seg(b, c)) && has(edges, seg(a, c)) && turn(p.P[a], p.P[b], p.P[c]) > 0 {
				l = append(l, tri(a, b, c))
			}
		}
	}
	return l
}

// checkWrong wants what is told of an input that is not right.
func checkWrong(t *testing.T, p api.Poly) {
	t.Helper()
	kept := clone(p)
	if l, e := fill.Edges(p); len(l) != 0 || e != api.ErrArg {
		t.Fatalf("Edges(%v) = %v, %d", p, l, e)
	}
	if m, e := fill.Make(p); m.P != nil || m.T != nil || m.S != nil || e != api.ErrArg {
		t.Fatalf("Make(%v) = %v, %d", p, m, e)
	}
	if !equal(p, kept) {
		t.Fatalf("%v was changed to %v", kept, p)
	}
}

// check holds Edges and Make against what the chapter says.
func check(t *testing.T, p api.Poly) {
	t.Helper()
	if !isRight(p) {
		checkWrong(t, p)
		return
	}
	kept := clone(p)
	want := wantEdges(p)
	if l, e := fill.Edges(p); !slices.Equal(l, want) || e != api.OK {
		t.Fatalf("Edges(%v) = %v, %d, want %v", p, l, e, want)
	}
	wantM := api.Mesh{P: p.P, T: wantT(p, want), S: wantS(p)}
	m, e := fill.Make(p)
	if !equalMesh(m, wantM) || e != api.OK {
		t.Fatalf("Make(%v) = %v, %d, want %v", p, m, e, wantM)
	}
	checkCoverage(t, p, want, m)
	if !equal(p, kept) {
		t.Fatalf("%v was changed to %v", kept, p)
	}
}

// sides has the edges of a triangle, in its direction.
func sides(t api.Tri) []api.Seg {
	return around([]int{t.A, t.B, t.C})
}

// apart tells whether a side of one of the triangles has all of the other one on its right.
func apart(p []api.Point, x, y api.Tri) bool {
	for range 2 {
		for _, s := range sides(x) {
			if max(turn(p[s.A], p[s.B], p[y.A]), turn(p[s.A], p[s.B], p[y.B]), turn(p[s.A], p[s.B], p[y.C])) <= 0 {
				return true
			}
		}
		x, y = y, x
	}
	return false
}

// checkCoverage wants the triangles of m not to overlap, and to fill what is within the loops; each point in one, each segment an edge, and no room for another one.
func checkCoverage(t *testing.T, p api.Poly, edges []api.Seg, m api.Mesh) {
	t.Helper()
	if e := fill.Check(m); e != api.OK {
		t.Fatalf("Check(%v) = %d", m, e)
	}
	used, beside := map[int]int{}, map[api.Seg]int{}
	area := 0
	for i, x := range m.T {
		for _, y := range m.T[:i] {
			if !apart(p.P, x, y) {
				t.Fatalf("%v and %v of Make(%v) overlap", x, y, p)
			}
		}
		area += turn(p.P[x.A], p.P[x.B], p.P[x.C])
		for _, s := range sides(x) {
			used[s.A]++
			beside[s]++
		}
	}
	// As many of each edge's two directions as there are triangles at it: of a segment of L one, of the others two.
	for _, s := range edges {
		want := 2
		if has(p.L, s) {
			want = 1
		}
		if n := beside[s] + beside[seg(s.B, s.A)]; n != want {
			t.Fatalf("%v is an edge of %d triangles of Make(%v)", s, n, p)
		}
	}
	whole, loops := within(t, p)
	if area != whole || len(used) != len(p.P) {
		t.Fatalf("Make(%v) has twice the area %d, want %d, and uses %d points", p, area, whole, len(used))
	}
	// Euler's count: each loop that is not in another one is a part, and each one in a part is a hole.
	if n := 2*len(p.P) - len(p.L) - 2*loops; len(m.T) != n {
		t.Fatalf("Make(%v) has %d triangles, want %d", p, len(m.T), n)
	}
}

// within has twice the area that is within the loops, and how many loops have that inside, less those that have it outside.
func within(t *testing.T, p api.Poly) (int, int) {
	t.Helper()
	loops, e := valid.Loops(p)
	if e != api.OK {
		t.Fatal(p, e)
	}
	area, count := 0, 0
	for i, ring := range loops {
		one, others := 0, slices.Concat(loops[:i], loops[i+1:])
		for _, s := range around(ring) {
			one += turn(at(0, 0), p.P[s.A], p.P[s.B])
		}
		one = max(one, -one)
		if n, _ := above(p.P, around(others...), p.P[ring[0]]); n%2 == 0 {
			area, count = area+one, count+1
		} else {
			area, count = area-one, count-1
		}
	}
	return area, count
}

func TestExamples(t *testing.T) {
	p := square()
	l, e := fill.Edges(p)
	if want := segs(0, 1, 0, 2, 0, 3, 1, 2, 2, 3); !slices.Equal(l, want) || e != api.OK {
		t.Error(l, e)
	}
	m, e := fill.Make(p)
	if want := (api.Mesh{P: p.P, T: tris(0, 1, 2, 0, 2, 3), S: segs(0, 1, 0, 3, 1, 2, 2, 3)}); !equalMesh(m, want) || e != api.OK {
		t.Error(m, e)
	}
	check(t, p)
}

func TestREADME(t *testing.T) {
	p := square()
	p.I = segs(3, 1)
	if l, e := fill.Edges(p); e != api.OK || !slices.Equal(l, segs(0, 1, 0, 3, 1, 2, 1, 3, 2, 3)) {
		t.Error(l, e)
	}
	m, e := fill.Make(p)
	if e != api.OK || !slices.Equal(m.T, tris(0, 1, 3, 1, 2, 3)) || !slices.Equal(m.S, segs(0, 1, 0, 3, 1, 2, 1, 3, 2, 3)) {
		t.Error(m, e)
	}
	if x, ok := fill.Tri(p.P, 3, 2, 1); !ok || x != tri(1, 2, 3) {
		t.Error(x, ok)
	}
	if f := fill.Faces(m.T); !slices.EqualFunc(f, [][]int{{0, 1, 3}, {1, 2, 3}}, slices.Equal) {
		t.Error(f)
	}
	if e := fill.Check(m); e != api.OK {
		t.Error(e)
	}
	m.S = m.S[1:]
	if e := fill.Check(m); e != api.ErrArg {
		t.Error(e)
	}
}

// sample is a right input, and its triangles.
type sample struct {
	name string
	p    api.Poly
	want []api.Tri
}

func plainSamples() []sample {
	p := square()
	hexagon := api.Poly{P: points(2, 0, 4, 1, 4, 3, 2, 4, 0, 3, 0, 1), L: around(rising(0, 6))}
	return []sample{
		{"triangle", api.Poly{P: points(0, 0, 4, 0, 0, 4), L: around(rising(0, 3))}, tris(0, 1, 2)},
		{"triangle, clockwise", api.Poly{P: points(0, 0, 0, 4, 4, 0), L: around(rising(0, 3))}, tris(0, 2, 1)},
		{"triangle, its smallest point last", api.Poly{P: points(4, 0, 0, 4, 0, 0), L: segs(1, 2, 0, 1, 0, 2)}, tris(0, 1, 2)},
		{"square", p, tris(0, 1, 2, 0, 2, 3)},
		{"square, clockwise", api.Poly{P: points(0, 0, 0, 4, 4, 4, 4, 0), L: p.L}, tris(0, 2, 1, 0, 3, 2)},
		{"square, other numbers", api.Poly{P: points(0, 0, 4, 4, 4, 0, 0, 4), L: segs(0, 2, 2, 1, 1, 3, 3, 0)}, tris(0, 1, 3, 0, 2, 1)},
		{"square, numbers of neighbours", api.Poly{P: points(0, 0, 4, 0, 0, 4, 4, 4), L: around([]int{0, 1, 3, 2})}, tris(0, 1, 3, 0, 3, 2)},
		{"the other diagonal", with(p, nil, nil, segs(1, 3)), tris(0, 1, 3, 1, 2, 3)},
		{"the other diagonal, back", with(p, nil, nil, segs(3, 1)), tris(0, 1, 3, 1, 2, 3)},
		{"the first diagonal, as it is anyway", with(p, nil, nil, segs(2, 0)), tris(0, 1, 2, 0, 2, 3)},
		{"the centre", with(p, points(2, 2), nil, nil), tris(0, 1, 4, 0, 4, 3, 1, 2, 4, 2, 3, 4)},
		{"beside the centre", with(p, points(2, 1), nil, nil), tris(0, 1, 4, 0, 2, 3, 0, 4, 2, 1, 2, 4)},
		{"inside a diagonal", with(p, points(1, 1), nil, nil), tris(0, 1, 4, 0, 4, 3, 1, 2, 3, 1, 3, 4)},
		{"inside a diagonal that is not there", with(p, points(1, 3), nil, nil), tris(0, 1, 2, 0, 2, 4, 0, 4, 3, 2, 3, 4)},
		{"dart", api.Poly{P: points(0, 0, 4, 0, 1, 1, 0, 4), L: p.L}, tris(0, 1, 2, 0, 2, 3)},
		{"dart with its tip at the second point", api.Poly{P: points(4, 0, 1, 1, 0, 4, 0, 0), L: p.L}, tris(0, 1, 3, 1, 2, 3)},
		{"a side in two", api.Poly{P: points(0, 0, 2, 0, 4, 0, 0, 4), L: p.L}, tris(0, 1, 3, 1, 2, 3)},
		{"a side in two, at the first point", api.Poly{P: points(2, 0, 4, 0, 0, 4, 0, 0), L: p.L}, tris(0, 1, 2, 0, 2, 3)},
		{"a triangle, each side in two", api.Poly{P: points(0, 0, 2, 0, 4, 0, 2, 2, 0, 4, 0, 2), L: around(rising(0, 6))}, tris(0, 1, 3, 0, 3, 5, 1, 2, 3, 3, 4, 5)},
		{"hexagon", hexagon, tris(0, 1, 2, 0, 2, 3, 0, 3, 4, 0, 4, 5)},
		{"hexagon, with one edge first", with(hexagon, nil, nil, segs(3, 1)), tris(0, 1, 3, 0, 3, 4, 0, 4, 5, 1, 2, 3)},
		{"hexagon, with two edges first", with(hexagon, nil, nil, segs(5, 1, 2, 4)), tris(0, 1, 5, 1, 2, 4, 1, 4, 5, 2, 3, 4)},
		{"points in a row", with(p, points(1, 2, 2, 2, 3, 2), nil, nil), tris(0, 1, 6, 0, 4, 3, 0, 5, 4, 0, 6, 5, 1, 2, 6, 2, 3, 4, 2, 4, 5, 2, 5, 6)},
	}
}

func otherSamples() []sample {
	p := square()
	hole := api.Poly{P: points(0, 0, 6, 0, 6, 6, 0, 6, 2, 2, 4, 2, 4, 4), L: around(rising(0, 4), rising(4, 7))}
	apart := with(p, points(5, 0, 9, 0, 9, 4, 5, 4), around(rising(4, 8)), nil)
	island := api.Poly{P: points(0, 0, 9, 0, 0, 9, 1, 1, 6, 1, 1, 6, 2, 2, 4, 2, 2, 4), L: around(rising(0, 3), rising(3, 6), rising(6, 9))}
	return []sample{
		{"a hole", hole, tris(0, 1, 5, 0, 4, 3, 0, 5, 4, 1, 2, 6, 1, 6, 5, 2, 3, 6, 3, 4, 6)},
		{"two parts", apart, tris(0, 1, 2, 0, 2, 3, 4, 5, 6, 4, 6, 7)},
		{"two parts, numbered by turns", api.Poly{P: points(0, 0, 5, 0, 4, 0, 9, 0, 0, 4, 5, 4), L: around([]int{0, 2, 4}, []int{1, 3, 5})}, tris(0, 2, 4, 1, 3, 5)},
		{"an island in a hole", island, tris(0, 1, 4, 0, 3, 5, 0, 4, 3, 0, 5, 2, 1, 2, 5, 1, 5, 4, 6, 7, 8)},
		{"a segment alone", with(p, points(1, 1, 3, 2), nil, segs(5, 4)), tris(0, 1, 5, 0, 4, 3, 0, 5, 4, 1, 2, 5, 2, 3, 4, 2, 4, 5)},
		{"a segment at a corner", with(p, points(1, 2), nil, segs(4, 1)), tris(0, 1, 4, 0, 4, 3, 1, 2, 3, 1, 3, 4)},
		{"a loop of I, which is no hole", with(p, points(1, 1, 2, 1, 1, 2), nil, segs(4, 5, 5, 6, 6, 4)), tris(0, 1, 5, 0, 4, 6, 0, 5, 4, 0, 6, 3, 1, 2, 3, 1, 3, 6, 1, 6, 5, 4, 5, 6)},
		{"from rim to rim", with(hole, nil, nil, segs(0, 5, 6, 1)), tris(0, 1, 5, 0, 4, 3, 0, 5, 4, 1, 2, 6, 1, 6, 5, 2, 3, 6, 3, 4, 6)},
	}
}

func samples() []sample {
	return append(plainSamples(), otherSamples()...)
}

func TestSamples(t *testing.T) {
	for _, x := range samples() {
		m, e := fill.Make(x.p)
		if want := (api.Mesh{P: x.p.P, T: x.want, S: wantS(x.p)}); !equalMesh(m, want) || e != api.OK {
			t.Errorf("%s: %v, %d, want %v", x.name, m, e, want)
		}
		check(t, x.p)
	}
}

// Which edges come first tells which others have room: of each convex loop the first point gets all of them.
func TestFirstEdges(t *testing.T) {
	for n := 3; n < 12; n++ {
		p := api.Poly{L: around(rising(0, n))}
		for i := range n {
			p.P = append(p.P, at(i, i*i))
		}
		m, e := fill.Make(p)
		var want []api.Tri
		for i := 2; i < n; i++ {
			want = append(want, tri(0, i-1, i))
		}
		if !slices.Equal(m.T, want) || e != api.OK {
			t.Errorf("Make(%v) = %v, %d", p, m, e)
		}
		check(t, p)
	}
}

// flawed has an input for each kind of flaw, and more.
func flawed() []sample {
	p := square()
	return []sample{
		{"alike", with(p, points(4, 0), nil, nil), nil},
		{"alike inside", with(p, points(1, 1, 1, 1), nil, nil), nil},
		{"a point", with(p, nil, nil, segs(2, 2)), nil},
		{"a point of L", with(p, nil, segs(2, 2), nil), nil},
		{"crossing", with(p, nil, nil, segs(0, 2, 1, 3)), nil},
		{"twice", with(p, nil, nil, segs(0, 1)), nil},
		{"twice in I", with(p, nil, nil, segs(0, 2, 2, 0)), nil},
		{"bow tie", api.Poly{P: p.P, L: around([]int{0, 1, 3, 2})}, nil},
		{"inside a side", with(p, points(4, 1), nil, nil), nil},
		{"inside a segment", with(p, points(3, 3), nil, segs(2, 0)), nil},
		{"open", api.Poly{P: p.P, L: p.L[1:]}, nil},
		{"closed by I", api.Poly{P: p.P, L: p.L[1:], I: p.L[:1]}, nil},
		{"a diagonal in L", with(p, nil, segs(0, 2), nil), nil},
		{"no loop", api.Poly{P: p.P, I: p.L}, nil},
		{"points alone", api.Poly{P: p.P}, nil},
		{"nothing", api.Poly{}, nil},
		{"out", with(p, points(9, 9, 9, 8), nil, segs(4, 5)), nil},
		{"out from a corner", with(p, points(9, 0), nil, segs(2, 4)), nil},
		{"in a hole", with(p, points(1, 1, 3, 1, 3, 3, 1, 3), around(rising(4, 8)), segs(4, 6)), nil},
		{"stray", with(p, points(9, 0), nil, nil), nil},
		{"stray in a hole", with(p, points(1, 1, 3, 1, 3, 3, 1, 3, 2, 2), around(rising(4, 8)), nil), nil},
	}
}

func TestFlaws(t *testing.T) {
	kinds := map[int]int{}
	for _, x := range flawed() {
		checkWrong(t, x.p)
		f, e := valid.First(x.p)
		if f.Kind == api.FlawNone || e != api.OK {
			t.Error(x.name, f, e)
		}
		kinds[f.Kind]++
	}
	for kind := api.FlawAlike; kind <= api.FlawStray; kind++ {
		if kinds[kind] == 0 {
			t.Error("no input has the flaw", kind)
		}
	}
}

// What input.Check refuses is not right either.
func TestWrongInputs(t *testing.T) {
	for _, x := range samples() {
		n := len(x.p.P)
		for _, q := range points(place+1, 0, 0, place+1, -place-1, 0, 0, -place-1, math.MaxInt, 0, 0, math.MinInt, 1<<32, 1<<33, math.MinInt, math.MaxInt) {
			checkWrong(t, with(x.p, []api.Point{q}, nil, nil))
			checkWrong(t, with(x.p, []api.Point{q}, nil, segs(0, n)))
		}
		for _, s := range segs(0, n, n, 0, -1, 0, 0, -1, n, n, -1, -1, math.MinInt, 0, 0, math.MaxInt, math.MaxInt, math.MinInt, 1<<32, 0) {
			checkWrong(t, with(x.p, nil, []api.Seg{s}, nil))
			checkWrong(t, with(x.p, nil, nil, []api.Seg{s}))
		}
	}
	p := square()
	checkWrong(t, with(p, nil, nil, make([]api.Seg, api.MaxSegs+1)))
	checkWrong(t, with(p, make([]api.Point, 1<<20), nil, nil))
	checkWrong(t, api.Poly{L: segs(0, 1)})
	checkWrong(t, api.Poly{I: segs(0, 0)})
}

// scattered are n different points inside a square from the origin to (size, size).
func scattered(r *rand.Rand, n, size int) []api.Point {
	taken := map[api.Point]int{}
	var p []api.Point
	for len(p) < n {
		q := at(1+r.IntN(size-1), 1+r.IntN(size-1))
		if taken[q]++; taken[q] == 1 {
			p = append(p, q)
		}
	}
	return p
}

// As many points as there may be: scattered far and close, in a loop, in a row.
func TestLimits(t *testing.T) {
	r := rand.New(rand.NewPCG(12, 1))
	const n = api.MaxPoints
	for _, size := range []int{16, 100, 2 * place} {
		p := api.Poly{P: points(0, 0, size, 0, size, size, 0, size), L: around(rising(0, 4))}
		p.P = append(p.P, scattered(r, n-4, size)...)
		p.P = each(p.P, func(q api.Point) api.Point { return at(q.X-size/2, q.Y-size/2) })
		checkCounted(t, p)
		checkWrong(t, with(p, points(0, 1), nil, nil))
	}
	var bowl, row api.Poly
	for i := range n - 1 {
		bowl.P = append(bowl.P, at(100*(i-n/2), (i-n/2)*(i-n/2)))
		row.P = append(row.P, at(i, 0))
	}
	bowl.L = around(rising(0, n-1))
	checkCounted(t, bowl)
	// Below the bowl, in which no edge has room.
	bowl.P, bowl.L = append(bowl.P, at(0, -place)), around(rising(0, n))
	checkCounted(t, bowl)
	row.P[n-2], row.L = at(n/2, 1), around([]int{0, n - 3, n - 2})
	checkWrong(t, row)
	row.P, row.L = append(row.P, at(n/2, -1)), around([]int{0, n - 1, n - 3, n - 2})
	checkCounted(t, row)
}

// checkCounted looks for coverage alone, in inputs that are too great for more.
func checkCounted(t *testing.T, p api.Poly) {
	t.Helper()
	edges, e := fill.Edges(p)
	m, eM := fill.Make(p)
	if e != api.OK || eM != api.OK {
		t.Fatalf("of %d points: %d, %d", len(p.P), e, eM)
	}
	if !slices.Equal(m.P, p.P) || !slices.Equal(m.S, wantS(p)) {
		t.Fatalf("Make(%v) = %v", p, m)
	}
	for i, s := range edges {
		if s.A >= s.B || i > 0 && (edges[i-1].A > s.A || edges[i-1].A == s.A && edges[i-1].B >= s.B) {
			t.Fatalf("%v is no edge, or not at its place in %v", s, edges)
		}
	}
	checkCoverage(t, p, edges, m)
}

// The whole grid of inputs, and what is as thin as can be.
func TestMostPlaces(t *testing.T) {
	const m = place
	p := api.Poly{P: points(-m, -m, m, -m, m, m, -m, m), L: around(rising(0, 4))}
	for _, x := range []sample{
		{"whole", p, tris(0, 1, 2, 0, 2, 3)},
		{"the other diagonal", with(p, nil, nil, segs(3, 1)), tris(0, 1, 3, 1, 2, 3)},
		{"near the diagonal", with(p, points(1, 0), nil, nil), tris(0, 1, 4, 0, 2, 3, 0, 4, 2, 1, 2, 4)},
		{"beside a side", with(p, points(m-1, 0), nil, nil), tris(0, 1, 4, 0, 2, 3, 0, 4, 2, 1, 2, 4)},
		{"on the diagonal", with(p, points(1, 1), nil, nil), tris(0, 1, 4, 0, 4, 3, 1, 2, 4, 2, 3, 4)},
		{"thin", api.Poly{P: points(-m, -m, m, m, m, m-1), L: around(rising(0, 3))}, tris(0, 2, 1)},
		{"thin, with a point", api.Poly{P: points(-m, -m, m, m, m, m-2, 1, 0), L: around(rising(0, 3))}, tris(0, 2, 3, 0, 3, 1, 1, 3, 2)},
		{"a thin hole", with(p, points(1-m, 2-m, m-1, m-1, m-2, m-2), around(rising(4, 7)), nil), nil},
	} {
		check(t, x.p)
		if got, e := fill.Make(x.p); x.want != nil && !slices.Equal(got.T, x.want) || e != api.OK {
			t.Errorf("%s: %v, %d, want %v", x.name, got.T, e, x.want)
		}
	}
}

// allChoices calls f with p, and each two points of it joined by no segment, one of L or one of I.
func allChoices(p []api.Point, f func(api.Poly)) {
	var pairs []api.Seg
	for a := range p {
		for b := range a {
			pairs = append(pairs, seg(a, b))
		}
	}
	var grow func(x api.Poly, left []api.Seg)
	grow = func(x api.Poly, left []api.Seg) {
		if len(left) == 0 {
			f(x)
			return
		}
		grow(x, left[1:])
		grow(with(x, nil, left[:1], nil), left[1:])
		grow(with(x, nil, nil, left[:1]), left[1:])
	}
	grow(api.Poly{P: p}, pairs)
}

// All choices of segments between few points.
func TestAllChoices(t *testing.T) {
	for _, p := range [][]api.Point{
		points(0, 0, 4, 0, 0, 4),
		points(0, 0, 4, 0, 4, 4, 0, 4),
		points(0, 0, 4, 0, 0, 4, 1, 1),
		points(0, 0, 2, 0, 4, 0, 0, 4),
		points(0, 0, 2, 0, 0, 0, 0, 2),
		points(0, 0, 4, 0, 4, 4, 0, 4, 2, 2),
		points(0, 0, 6, 0, 5, 4, 1, 5, 2, 2),
	} {
		right := 0
		allChoices(p, func(p api.Poly) {
			check(t, p)
			if isRight(p) {
				right++
			}
		})
		if right == 0 && p[0] != p[2] {
			t.Errorf("no choice between %v is right", p)
		}
	}
}

// All triangles and quadrilaterals in a small grid, and all triangles with one more point.
func TestAllLoops(t *testing.T) {
	const n = 4
	right := 0
	cell := func(i int) api.Point { return at(i%n, i/n%n) }
	for i := range n * n * n * n * n * n * n * n {
		p := []api.Point{cell(i), cell(i / 16), cell(i / 256), cell(i / 4096)}
		for _, x := range []api.Poly{{P: p, L: around(rising(0, 4))}, {P: p, L: around(rising(0, 3))}, {P: p[:3], L: around(rising(0, 3))}} {
			check(t, x)
			if isRight(x) {
				right++
			}
		}
	}
	if right < 10000 {
		t.Error(right)
	}
}

// drawnLoop is one simple loop: points by their X, first those on one side of the line from the first to the last one, then back those on the other side.
func drawnLoop(r *rand.Rand, n, size int) api.Poly {
	xs := map[int]int{}
	var p, low, high []api.Point
	for range n {
		q := at(r.IntN(2*size+1)-size, r.IntN(2*size+1)-size)
		if xs[q.X]++; xs[q.X] == 1 {
			p = append(p, q)
		}
	}
	slices.SortFunc(p, func(a, b api.Point) int { return a.X - b.X })
	first, last := p[0], p[len(p)-1]
	for _, q := range p {
		if side := turn(first, last, q); side < 0 {
			low = append(low, q)
		} else if side > 0 {
			high = append([]api.Point{q}, high...)
		}
	}
	all := slices.Concat([]api.Point{first}, low, []api.Point{last}, high)
	return api.Poly{P: all, L: around(rising(0, len(all)))}
}

// drawn is a right input: a loop, into or beside which points, triangles and segments are laid, as far as it stays right.
func drawn(r *rand.Rand) api.Poly {
	for {
		size := 3 << r.IntN(18)
		p := drawnLoop(r, 4+r.IntN(6), size)
		for range 4 + r.IntN(16) {
			if next := more(r, p, size); isRight(next) {
				p = next
			}
		}
		if isRight(p) {
			return renumbered(r, p)
		}
	}
}

// more is p with a point more, a triangle or a segment, wherever that is.
func more(r *rand.Rand, p api.Poly, size int) api.Poly {
	n := len(p.P)
	spot := func(size int) api.Point { return at(r.IntN(2*size+1)-size, r.IntN(2*size+1)-size) }
	halfway := sum(p.P[r.IntN(n)], p.P[r.IntN(n)])
	q, near := sum(at(halfway.X/2, halfway.Y/2), spot(1+size/8)), 1+size/(1+r.IntN(8))
	switch r.IntN(6) {
	case 0, 1:
		return with(p, []api.Point{q}, nil, nil)
	case 2:
		return with(p, []api.Point{q, sum(q, spot(near)), sum(q, spot(near))}, around([]int{n, n + 1, n + 2}), nil)
	case 3:
		return with(p, []api.Point{spot(2 * size), spot(size), spot(size)}, around([]int{n, n + 1, n + 2}), nil)
	default:
		return with(p, nil, nil, segs(r.IntN(n), r.IntN(n)))
	}
}

// shuffled has the same segments in another order, some of them the other way round.
func shuffled(r *rand.Rand, p api.Poly) api.Poly {
	p = clone(p)
	for _, l := range [][]api.Seg{p.L, p.I} {
		r.Shuffle(len(l), func(i, k int) { l[i], l[k] = l[k], l[i] })
		for i, s := range l {
			if r.IntN(2) == 0 {
				l[i] = seg(s.B, s.A)
			}
		}
	}
	return p
}

// renumbered has the same points and segments, with other numbers.
func renumbered(r *rand.Rand, p api.Poly) api.Poly {
	names := r.Perm(len(p.P))
	q := clone(p)
	for i, name := range names {
		q.P[name] = p.P[i]
	}
	for _, l := range [][]api.Seg{q.L, q.I} {
		for i, s := range l {
			l[i] = seg(names[s.A], names[s.B])
		}
	}
	return shuffled(r, q)
}

func TestDrawn(t *testing.T) {
	r := rand.New(rand.NewPCG(12, 2))
	kinds := map[string]int{}
	for range 1500 {
		p := drawn(r)
		check(t, p)
		loops, _ := valid.Loops(p)
		_, count := within(t, p)
		holes := (len(loops) - count) / 2
		if holes > 0 {
			kinds["holes"]++
		}
		if holes > 1 {
			kinds["several holes"]++
		}
		if len(loops) > holes+1 {
			kinds["parts"]++
		}
		if len(p.I) > 1 {
			kinds["segments inside"]++
		}
		if len(p.P) > len(p.L)+1 {
			kinds["points inside"]++
		}
	}
	if kinds["holes"] < 100 || kinds["several holes"] < 10 || kinds["parts"] < 100 || kinds["segments inside"] < 300 || kinds["points inside"] < 300 {
		t.Error(kinds)
	}
}

// cells has the rims of cells of a board as loops, with the centres of some cells as points: many are in rows, and on circles.
func cells(in []string) api.Poly {
	var p api.Poly
	inside := func(x, y int) bool {
		return y >= 0 && y < len(in) && x >= 0 && x < len(in[y]) && in[y][x] != ' '
	}
	number := map[api.Point]int{}
	name := func(x, y int) int {
		q := at(2*x, 2*y)
		if _, found := number[q]; !found {
			number[q] = len(p.P)
			p.P = append(p.P, q)
		}
		return number[q]
	}
	for y := range len(in) + 1 {
		for x := range len(in[0]) + 1 {
			if inside(x, y) != inside(x, y-1) {
				p.L = append(p.L, seg(name(x, y), name(x+1, y)))
			}
			if inside(x, y) != inside(x-1, y) {
				p.L = append(p.L, seg(name(x, y+1), name(x, y)))
			}
			if inside(x, y) && in[y][x] == '+' {
				p.P = append(p.P, at(2*x+1, 2*y+1))
			}
		}
	}
	return p
}

func TestBoards(t *testing.T) {
	r := rand.New(rand.NewPCG(12, 3))
	for _, x := range []struct {
		in        []string
		triangles int
	}{
		{[]string{"-"}, 2},
		{[]string{"+"}, 4},
		{[]string{"---"}, 6},
		{[]string{"++", "++"}, 14},
		{[]string{"- -", "---", "- -"}, 14},
		{[]string{"---", "- -", "---"}, 16},
		{[]string{"+++", "+ +", "+++"}, 32},
		{[]string{"-----", "-   -", "- + -", "-   -", "-----"}, 36},
		{[]string{"- - -", "-----", "  -  ", "-----", "- - -"}, 34},
		{[]string{"- +", "- +", "   ", "+++"}, 24},
	} {
		p := cells(x.in)
		check(t, p)
		for range 10 {
			q := renumbered(r, p)
			check(t, q)
			if m, e := fill.Make(q); e != api.OK || len(m.T) != x.triangles {
				t.Errorf("%q: %d triangles, want %d", x.in, len(m.T), x.triangles)
			}
		}
	}
}

// A translation and quarter turns change only the places; a mirror turns the triangles round. The order and direction of segments change nothing, and other numbers not how many triangles there are.
func TestElsewhere(t *testing.T) {
	r := rand.New(rand.NewPCG(12, 4))
	for range 300 {
		p := drawn(r)
		p.P = each(p.P, func(q api.Point) api.Point { return at(q.X/2, q.Y/2) })
		if !isRight(p) {
			continue
		}
		edges, _ := fill.Edges(p)
		m, _ := fill.Make(p)
		by := at(r.IntN(place/4), r.IntN(place/4))
		for _, move := range []func(api.Point) api.Point{
			func(q api.Point) api.Point { return sum(q, by) },
			func(q api.Point) api.Point { return at(-q.Y, q.X) },
			func(q api.Point) api.Point { return at(-q.X, -q.Y) },
			func(q api.Point) api.Point { return q },
		} {
			q := shuffled(r, api.Poly{P: each(p.P, move), L: p.L, I: p.I})
			l, _ := fill.Edges(q)
			got, e := fill.Make(q)
			if !slices.Equal(l, edges) || !equalMesh(got, api.Mesh{P: q.P, T: m.T, S: m.S}) || e != api.OK {
				t.Fatalf("Make(%v) = %v, %d, but Make(%v) = %v", q, got, e, p, m)
			}
		}
		mirror := api.Poly{P: each(p.P, func(q api.Point) api.Point { return at(q.Y, q.X) }), L: p.L, I: p.I}
		back, e := fill.Make(mirror)
		for _, x := range m.T {
			if len(back.T) != len(m.T) || !slices.Contains(back.T, tri(x.A, x.C, x.B)) || e != api.OK {
				t.Fatalf("Make(%v) = %v, %d, but Make(%v) = %v", mirror, back, e, p, m)
			}
		}
		if other, e := fill.Make(renumbered(r, p)); len(other.T) != len(m.T) || e != api.OK {
			t.Fatalf("%v has %d triangles, but with other numbers %v", p, len(m.T), other)
		}
	}
}

// What has been made stays: with all its edges as segments, an input has the same triangles.
func TestFilledAgain(t *testing.T) {
	r := rand.New(rand.NewPCG(12, 5))
	for range 300 {
		p := drawn(r)
		edges, _ := fill.Edges(p)
		m, _ := fill.Make(p)
		q := api.Poly{P: p.P, L: p.L}
		for _, s := range edges {
			if !has(p.L, s) {
				q.I = append(q.I, s)
			}
		}
		n, e := fill.Make(shuffled(r, q))
		if e != api.OK || !slices.Equal(n.T, m.T) || !slices.Equal(n.S, edges) {
			t.Fatalf("Make(%v) = %v, %d, but Make(%v) = %v", q, n, e, p, m)
		}
		check(t, q)
	}
}

// bigTurn is the sign of turn, for points of any place.
func bigTurn(a, b, c api.Point) int {
	less := func(m, n int) *big.Int { return new(big.Int).Sub(big.NewInt(int64(m)), big.NewInt(int64(n))) }
	one := new(big.Int).Mul(less(b.X, a.X), less(c.Y, a.Y))
	return one.Cmp(new(big.Int).Mul(less(b.Y, a.Y), less(c.X, a.X)))
}

func fits(q api.Point) bool {
	return max(q.X, q.Y) <= 1<<32 && min(q.X, q.Y) >= -1<<32
}

// wantTri tries each way to write down the three points.
func wantTri(p []api.Point, a, b, c int) (api.Tri, bool) {
	for _, i := range []int{a, b, c} {
		if i < 0 || i >= len(p) || !fits(p[i]) {
			return api.Tri{}, false
		}
	}
	for _, x := range tris(a, b, c, b, c, a, c, a, b, a, c, b, c, b, a, b, a, c) {
		if x.A == min(a, b, c) && bigTurn(p[x.A], p[x.B], p[x.C]) > 0 {
			return x, true
		}
	}
	return api.Tri{}, false
}

func checkTri(t *testing.T, p []api.Point, a, b, c int) bool {
	t.Helper()
	want, wantOK := wantTri(p, a, b, c)
	if x, ok := fill.Tri(p, a, b, c); x != want || ok != wantOK {
		t.Fatalf("Tri(%v, %d, %d, %d) = %v, %v, want %v, %v", p, a, b, c, x, ok, want, wantOK)
	}
	return wantOK
}

func TestTri(t *testing.T) {
	const m = api.Bound
	p := points(0, 0, 4, 0, 0, 4, 2, 2, 4, 0, 1, 1, m, m, -m, -m, m, m-1, m-1, m, -m, m, m+1, 0, 0, -m-1, math.MaxInt, math.MinInt, math.MinInt, 1)
	kept := slices.Clone(p)
	numbers := append(rising(-2, len(p)+2), math.MinInt, math.MaxInt, 1<<32, 3+1<<32, -1<<32)
	found := map[bool]int{}
	for _, a := range numbers {
		for _, b := range numbers {
			for _, c := range numbers {
				found[checkTri(t, p, a, b, c)]++
				checkTri(t, p[:3], a, b, c)
				checkTri(t, nil, a, b, c)
			}
		}
	}
	if found[true] < 500 || found[false] < 5000 || !slices.Equal(p, kept) {
		t.Error(found, p)
	}
	for _, x := range []struct {
		a, b, c int
		want    api.Tri
	}{
		{0, 1, 2, tri(0, 1, 2)}, {1, 2, 0, tri(0, 1, 2)}, {2, 0, 1, tri(0, 1, 2)},
		{0, 2, 1, tri(0, 1, 2)}, {2, 1, 0, tri(0, 1, 2)}, {1, 0, 2, tri(0, 1, 2)},
		{6, 7, 8, tri(6, 7, 8)}, {9, 7, 6, tri(6, 9, 7)}, {0, 8, 7, tri(0, 7, 8)}, {9, 0, 7, tri(0, 9, 7)},
	} {
		if got, ok := fill.Tri(p, x.a, x.b, x.c); got != x.want || !ok {
			t.Errorf("Tri(%d, %d, %d) = %v, %v, want %v", x.a, x.b, x.c, got, ok, x.want)
		}
	}
}

// All three points of a small grid, with all orders of their numbers.
func TestTriOfGrid(t *testing.T) {
	var p []api.Point
	for i := range 16 {
		p = append(p, at(i%4, i/4))
	}
	for i := range 16 * 16 * 16 {
		checkTri(t, p, i%16, i/16%16, i/256)
		back := slices.Clone(p)
		slices.Reverse(back)
		checkTri(t, back, i%16, i/16%16, i/256)
	}
}

func TestFaces(t *testing.T) {
	for _, x := range []struct {
		l    []api.Tri
		want [][]int
	}{
		{nil, nil}, {[]api.Tri{}, nil},
		{tris(0, 1, 2), [][]int{{0, 1, 2}}},
		{tris(0, 1, 2, 0, 2, 3), [][]int{{0, 1, 2}, {0, 2, 3}}},
		// As they are: whether they may be is not asked.
		{tris(7, 7, 7, 3, 2, 1, 3, 2, 1, -1, 0, 5), [][]int{{7, 7, 7}, {3, 2, 1}, {3, 2, 1}, {-1, 0, 5}}},
		{tris(math.MinInt, math.MaxInt, 1<<32), [][]int{{math.MinInt, math.MaxInt, 1 << 32}}},
	} {
		kept := slices.Clone(x.l)
		if f := fill.Faces(x.l); !slices.EqualFunc(f, x.want, slices.Equal) || !slices.Equal(x.l, kept) {
			t.Errorf("Faces(%v) = %v, want %v", x.l, f, x.want)
		}
	}
	l := make([]api.Tri, 100000)
	for i := range l {
		l[i] = tri(i, i+1, i+2)
	}
	f := fill.Faces(l)
	if i := slices.IndexFunc(f, func(face []int) bool { return len(face) != 3 || face[1] != face[0]+1 || face[2] != face[0]+2 }); i >= 0 || len(f) != len(l) || f[99999][0] != 99999 {
		t.Error(len(f), i)
	}
}

// wantCheck holds each triangle and each edge against all others.
func wantCheck(m api.Mesh) api.Errno {
	var all []api.Seg
	for i, x := range m.T {
		if same, ok := wantTri(m.P, x.A, x.B, x.C); !ok || same != x {
			return api.ErrArg
		}
		if i > 0 && slices.Compare([]int{m.T[i-1].A, m.T[i-1].B, m.T[i-1].C}, []int{x.A, x.B, x.C}) >= 0 {
			return api.ErrArg
		}
		for _, s := range sides(x) {
			if slices.Contains(all, s) {
				return api.ErrArg
			}
			all = append(all, s)
		}
	}
	for i, s := range m.S {
		if s.A >= s.B || !has(all, s) || i > 0 && slices.Compare([]int{m.S[i-1].A, m.S[i-1].B}, []int{s.A, s.B}) >= 0 {
			return api.ErrArg
		}
	}
	for _, s := range all {
		if !slices.Contains(all, seg(s.B, s.A)) && !has(m.S, s) {
			return api.ErrArg
		}
	}
	return api.OK
}

func checkCheck(t *testing.T, m api.Mesh) api.Errno {
	t.Helper()
	kept := cloneMesh(m)
	want := wantCheck(m)
	if e := fill.Check(m); e != want {
		t.Fatalf("Check(%v) = %d, want %d", m, e, want)
	}
	if !equalMesh(m, kept) {
		t.Fatalf("%v was changed to %v", kept, m)
	}
	return want
}

// twoTris is a square with the edge from 0 to 2, and a triangle beside it.
func twoTris() api.Mesh {
	return api.Mesh{P: points(0, 0, 4, 0, 4, 4, 0, 4, 9, 2), T: tris(0, 1, 2, 0, 2, 3, 1, 4, 2), S: segs(0, 1, 0, 3, 1, 4, 2, 3, 2, 4)}
}

func TestCheckAccepts(t *testing.T) {
	m := twoTris()
	for _, x := range []struct {
		name string
		m    api.Mesh
	}{
		{"as it is", m},
		{"an inner edge stays", api.Mesh{P: m.P, T: m.T, S: segs(0, 1, 0, 2, 0, 3, 1, 4, 2, 3, 2, 4)}},
		{"all edges stay", api.Mesh{P: m.P, T: m.T, S: segs(0, 1, 0, 2, 0, 3, 1, 2, 1, 4, 2, 3, 2, 4)}},
		{"nothing", api.Mesh{}},
		{"points alone", api.Mesh{P: m.P}},
		{"a point in no triangle", api.Mesh{P: append(slices.Clone(m.P), at(50, 50)), T: m.T, S: m.S}},
		{"one that does not fit, in no triangle", api.Mesh{P: append(slices.Clone(m.P), at(math.MaxInt, math.MinInt)), T: m.T, S: m.S}},
		{"points alike, in no triangle or different ones", api.Mesh{P: points(0, 0, 4, 0, 0, 4, 0, 0, 4, 0, 0, 4, 0, 0), T: tris(0, 1, 2, 3, 4, 5), S: segs(0, 1, 0, 2, 1, 2, 3, 4, 3, 5, 4, 5)}},
		{"triangles apart", api.Mesh{P: points(0, 0, 4, 0, 0, 4, 9, 9, 12, 9, 9, 12), T: tris(0, 1, 2, 3, 4, 5), S: segs(0, 1, 0, 2, 1, 2, 3, 4, 3, 5, 4, 5)}},
		// What the chapter does not ask for: that they lie beside each other.
		{"triangles that overlap", api.Mesh{P: points(0, 0, 4, 0, 0, 4, 1, 1, 5, 1, 1, 5), T: tris(0, 1, 2, 3, 4, 5), S: segs(0, 1, 0, 2, 1, 2, 3, 4, 3, 5, 4, 5)}},
		{"triangles with one point in common", api.Mesh{P: points(0, 0, 4, 0, 0, 4, -4, 0, 0, -4), T: tris(0, 1, 2, 0, 3, 4), S: segs(0, 1, 0, 2, 0, 3, 0, 4, 1, 2, 3, 4)}},
		{"a hole", api.Mesh{P: points(0, 0, 9, 0, 0, 9, 2, 2, 4, 2, 2, 4), T: tris(0, 1, 3, 0, 3, 5, 0, 5, 2, 1, 2, 4, 1, 4, 3, 2, 5, 4), S: segs(0, 1, 0, 2, 1, 2, 3, 4, 3, 5, 4, 5)}},
		{"as far as points fit", api.Mesh{P: points(-1<<32, -1<<32, 1<<32, 1<<32, 1<<32, 1<<32-1), T: tris(0, 2, 1), S: segs(0, 1, 0, 2, 1, 2)}},
	} {
		if e := checkCheck(t, x.m); e != api.OK {
			t.Errorf("%s: %d", x.name, e)
		}
	}
}

func TestCheckRefuses(t *testing.T) {
	m := twoTris()
	far := points(0, 0, 1<<32+1, 0, 4, 4, 0, 4, 9, 2)
	low := points(0, 0, 4, -1<<32-1, 4, 4, 0, 4, 9, 2)
	for _, x := range []struct {
		name string
		m    api.Mesh
	}{
		{"triangles out of order", api.Mesh{P: m.P, T: tris(0, 2, 3, 0, 1, 2, 1, 4, 2), S: m.S}},
		{"triangles out of order, by A", api.Mesh{P: m.P, T: tris(1, 4, 2, 0, 1, 2, 0, 2, 3), S: m.S}},
		{"triangles out of order, by C", api.Mesh{P: points(0, 0, 4, 0, 4, 4, 0, 4), T: tris(0, 1, 3, 0, 1, 2), S: segs(0, 1, 0, 2, 0, 3, 1, 2, 1, 3)}},
		{"a triangle twice", api.Mesh{P: m.P, T: tris(0, 1, 2, 0, 1, 2, 0, 2, 3, 1, 4, 2), S: m.S}},
		{"a clockwise triangle", api.Mesh{P: m.P, T: tris(0, 1, 2, 0, 3, 2, 1, 4, 2), S: m.S}},
		{"only clockwise triangles", api.Mesh{P: points(0, 0, 0, 4, 4, 0), T: tris(0, 1, 2), S: segs(0, 1, 0, 2, 1, 2)}},
		{"not begun by the smallest", api.Mesh{P: m.P, T: tris(0, 1, 2, 0, 2, 3, 2, 1, 4), S: m.S}},
		{"not begun by the smallest, the last", api.Mesh{P: m.P, T: tris(0, 1, 2, 0, 2, 3, 4, 2, 1), S: m.S}},
		{"collinear", api.Mesh{P: points(0, 0, 2, 0, 4, 0), T: tris(0, 1, 2), S: segs(0, 1, 0, 2, 1, 2)}},
		{"points alike", api.Mesh{P: points(0, 0, 4, 0, 0, 0), T: tris(0, 1, 2), S: segs(0, 1, 0, 2, 1, 2)}},
		{"one point", api.Mesh{P: m.P, T: tris(0, 0, 0), S: nil}},
		{"a point that is not there", api.Mesh{P: m.P[:4], T: m.T, S: m.S}},
		{"no points", api.Mesh{T: m.T, S: m.S}},
		{"a number below 0", api.Mesh{P: m.P, T: tris(-1, 1, 2, 0, 2, 3), S: m.S}},
		{"a great number", api.Mesh{P: m.P, T: tris(0, 1, 2, 0, 2, math.MaxInt), S: m.S}},
		{"a point that does not fit", api.Mesh{P: far, T: m.T, S: m.S}},
		{"a point too low", api.Mesh{P: low, T: m.T, S: m.S}},
		{"an edge twice", api.Mesh{P: points(0, 0, 4, 0, 4, 4, 0, 4), T: tris(0, 1, 2, 0, 1, 3), S: segs(0, 1, 0, 2, 0, 3, 1, 2, 1, 3)}},
		{"an edge twice, in triangles that are not neighbours", api.Mesh{P: points(0, 0, 4, 0, 4, 4, 0, 4, 9, 2, -3, 3), T: tris(0, 1, 2, 0, 2, 3, 1, 4, 2, 1, 5, 4), S: segs(0, 1, 0, 3, 1, 4, 1, 5, 2, 3, 2, 4, 4, 5)}},
		{"S without one at a rim", api.Mesh{P: m.P, T: m.T, S: m.S[1:]}},
		{"S without the last one", api.Mesh{P: m.P, T: m.T, S: m.S[:4]}},
		{"S without one between", api.Mesh{P: m.P, T: m.T, S: segs(0, 1, 0, 3, 2, 3, 2, 4)}},
		{"no S", api.Mesh{P: m.P, T: m.T}},
		{"S with the inner edges alone", api.Mesh{P: m.P, T: m.T, S: segs(0, 2, 1, 2)}},
		{"S out of order", api.Mesh{P: m.P, T: m.T, S: segs(0, 3, 0, 1, 1, 4, 2, 3, 2, 4)}},
		{"S out of order, by A", api.Mesh{P: m.P, T: m.T, S: segs(0, 1, 1, 4, 0, 3, 2, 3, 2, 4)}},
		{"one of S twice", api.Mesh{P: m.P, T: m.T, S: segs(0, 1, 0, 3, 0, 3, 1, 4, 2, 3, 2, 4)}},
		{"one of S the other way round", api.Mesh{P: m.P, T: m.T, S: segs(0, 1, 0, 3, 1, 4, 2, 3, 4, 2)}},
		{"one of S in both directions", api.Mesh{P: m.P, T: m.T, S: segs(0, 1, 0, 3, 1, 0, 1, 4, 2, 3, 2, 4)}},
		{"an inner one of S the other way round", api.Mesh{P: m.P, T: m.T, S: segs(0, 1, 0, 3, 1, 4, 2, 0, 2, 3, 2, 4)}},
		{"one of S that is no edge", api.Mesh{P: m.P, T: m.T, S: segs(0, 1, 0, 3, 0, 4, 1, 4, 2, 3, 2, 4)}},
		{"one of S from a point to itself", api.Mesh{P: m.P, T: m.T, S: segs(0, 0, 0, 1, 0, 3, 1, 4, 2, 3, 2, 4)}},
		{"one of S beyond the points", api.Mesh{P: m.P, T: m.T, S: segs(0, 1, 0, 3, 1, 4, 2, 3, 2, 4, 5, 6)}},
		{"one of S below 0", api.Mesh{P: m.P, T: m.T, S: segs(-1, 0, 0, 1, 0, 3, 1, 4, 2, 3, 2, 4)}},
		{"one of S far off", api.Mesh{P: m.P, T: m.T, S: segs(0, 1, 0, 3, 1, 4, 2, 3, 2, 4, math.MaxInt-1, math.MaxInt)}},
		{"one of S from far off", api.Mesh{P: m.P, T: m.T, S: segs(math.MinInt, math.MaxInt, 0, 1, 0, 3, 1, 4, 2, 3, 2, 4)}},
		{"S without triangles", api.Mesh{P: m.P, S: m.S}},
		{"S alone", api.Mesh{S: segs(0, 1)}},
	} {
		if e := checkCheck(t, x.m); e != api.ErrArg {
			t.Errorf("%s: %d", x.name, e)
		}
	}
}

// All short lists of triangles of four points, right ones and wrong ones, with all choices of what stays.
func TestCheckAll(t *testing.T) {
	found := map[api.Errno]int{}
	for _, p := range [][]api.Point{points(0, 0, 4, 0, 4, 4, 0, 4), points(0, 0, 6, 0, 0, 6, 1, 2), points(0, 0, 2, 0, 4, 0, 1, 3)} {
		var some []api.Tri
		for i := range 64 {
			x := tri(i/16, i/4%4, i%4)
			if _, ok := wantTri(p, x.A, x.B, x.C); ok && x.A == min(x.A, x.B, x.C) {
				some = append(some, x)
			}
		}
		some = append(some, tri(1, 2, 0), tri(0, 1, 1), tri(-1, 0, 2), tri(0, 2, 4))
		lists := [][]api.Tri{nil}
		for n := 0; n < len(lists); n++ {
			for _, x := range some {
				if len(lists[n]) < 2 || len(lists[n]) == 2 && x.A >= lists[n][1].A {
					lists = append(lists, append(slices.Clone(lists[n]), x))
				}
			}
		}
		pairs := segs(0, 1, 0, 2, 0, 3, 1, 2, 1, 3, 2, 3)
		for _, l := range lists {
			for choice := range 1 << len(pairs) {
				var s []api.Seg
				for i, x := range pairs {
					if choice>>i&1 == 1 {
						s = append(s, x)
					}
				}
				found[checkCheck(t, api.Mesh{P: p, T: l, S: s})]++
			}
		}
	}
	if found[api.OK] < 30 || found[api.ErrArg] < 10000 {
		t.Error(found)
	}
}

// spoil changes one thing in a mesh, or two.
func spoil(r *rand.Rand, m api.Mesh) api.Mesh {
	m = cloneMesh(m)
	i, k := r.IntN(len(m.T)), r.IntN(len(m.S))
	x, s := m.T[i], m.S[k]
	one := func() int { return r.IntN(len(m.P)+2) - 1 }
	switch r.IntN(12) {
	case 0:
		m.T[i] = []api.Tri{tri(x.B, x.C, x.A), tri(x.A, x.C, x.B), tri(one(), x.B, x.C), tri(x.A, one(), x.C), tri(x.A, x.B, one())}[r.IntN(5)]
	case 1:
		m.T = slices.Delete(m.T, i, i+1)
	case 2:
		m.T = slices.Insert(m.T, i, x)
	case 3:
		m.T[i], m.T[0] = m.T[0], m.T[i]
	case 4:
		m.S[k] = []api.Seg{seg(s.B, s.A), seg(one(), s.B), seg(s.A, one())}[r.IntN(3)]
	case 5:
		m.S = slices.Delete(m.S, k, k+1)
	case 6:
		m.S = slices.Insert(m.S, k, s)
	case 7:
		m.S[k], m.S[0] = m.S[0], m.S[k]
	case 8:
		m.P[r.IntN(len(m.P))] = m.P[r.IntN(len(m.P))]
	case 9:
		m.P[r.IntN(len(m.P))].X += []int{1, -1, 1 << 33, math.MinInt, 1000}[r.IntN(5)]
	case 10:
		m.P = m.P[:len(m.P)-1]
	case 11:
		inner := sides(x)[r.IntN(3)]
		m.S = append(m.S, seg(min(inner.A, inner.B), max(inner.A, inner.B)))
		slices.SortFunc(m.S, func(s, r api.Seg) int { return slices.Compare([]int{s.A, s.B}, []int{r.A, r.B}) })
	}
	return m
}

func TestCheckSpoiled(t *testing.T) {
	r := rand.New(rand.NewPCG(12, 6))
	found := map[api.Errno]int{}
	for range 600 {
		m, e := fill.Make(drawn(r))
		if e != api.OK || checkCheck(t, m) != api.OK {
			t.Fatal(m, e)
		}
		for range 10 {
			found[checkCheck(t, spoil(r, m))]++
		}
	}
	if found[api.OK] < 500 || found[api.ErrArg] < 3000 {
		t.Error(found)
	}
}

// strip is a strip of n triangles, whose rims stay.
func strip(n int) api.Mesh {
	var m api.Mesh
	for i := range n + 2 {
		m.P = append(m.P, at(i, i%2))
	}
	m.S = segs(0, 1)
	for i := range n {
		x := tri(i, i+1, i+2)
		if i%2 == 0 {
			x = tri(i, i+2, i+1)
		}
		m.T = append(m.T, x)
		m.S = append(m.S, seg(i, i+2))
	}
	m.S = append(m.S, seg(n, n+1))
	return m
}

func TestCheckGreatMesh(t *testing.T) {
	for _, n := range []int{1, 2, 3, 50} {
		if e := checkCheck(t, strip(n)); e != api.OK {
			t.Error(n, e)
		}
	}
	m := strip(1 << 18)
	if e := fill.Check(m); e != api.OK {
		t.Error(e)
	}
	last := len(m.T) - 1
	m.T[last] = tri(m.T[last].A, m.T[last].C, m.T[last].B)
	if e := fill.Check(m); e != api.ErrArg {
		t.Error("the last triangle clockwise", e)
	}
	m = strip(1 << 18)
	m.S = m.S[:len(m.S)-1]
	if e := fill.Check(m); e != api.ErrArg {
		t.Error("without the last segment", e)
	}
	m = strip(1 << 18)
	m.T = append(m.T, tri(len(m.P)-4, len(m.P)-2, len(m.P)-1))
	if e := fill.Check(m); e != api.ErrArg {
		t.Error("an edge twice", e)
	}
}

// set makes all elements x, the ones behind the end too.
func set[T any](l []T, x T) {
	l = l[:cap(l)]
	for i := range l {
		l[i] = x
	}
}

// R2: results are the caller's own; what is behind the end of an argument is neither read nor written.
func TestResultsAreNewMemory(t *testing.T) {
	// L and I are pieces of one list, with others behind them.
	all := segs(1, 0, 1, 2, 2, 3, 3, 0, 3, 1, 9, 9, -1, 99)
	p := api.Poly{P: append(square().P, at(0, 0), at(place+1, 0))[:4], L: all[:4], I: all[4:5]}
	kept, keptP := slices.Clone(all), slices.Clone(p.P[:6])
	wantL, wantM := segs(0, 1, 0, 3, 1, 2, 1, 3, 2, 3), api.Mesh{P: keptP[:4], T: tris(0, 1, 3, 1, 2, 3), S: segs(0, 1, 0, 3, 1, 2, 1, 3, 2, 3)}
	for range 2 {
		first, _ := fill.Edges(p)
		second, _ := fill.Edges(p)
		m, _ := fill.Make(p)
		n, e := fill.Make(p)
		f, g := fill.Faces(n.T), fill.Faces(n.T)
		set(first, seg(7, 7))
		set(m.P, at(7, 7))
		set(m.T, tri(7, 7, 7))
		set(m.S, seg(7, 7))
		set(f[0], 7)
		if !slices.Equal(f[1], []int{1, 2, 3}) || !slices.EqualFunc(g, [][]int{{0, 1, 3}, {1, 2, 3}}, slices.Equal) {
			t.Error("faces share memory", f, g)
		}
		set(f, nil)
		if !slices.EqualFunc(g, [][]int{{0, 1, 3}, {1, 2, 3}}, slices.Equal) || !slices.Equal(second, wantL) || !equalMesh(n, wantM) || e != api.OK {
			t.Error("results share memory", g, second, n, e)
		}
	}
	if !slices.Equal(all, kept) || !slices.Equal(p.P[:6], keptP) {
		t.Errorf("arguments became %v, %v", p.P[:6], all)
	}
	// Neither is the mesh changed that is checked, nor read behind its ends.
	m := twoTris()
	n := api.Mesh{P: append(m.P, at(1, 1))[:5], T: append(m.T, tri(0, 0, 0))[:3], S: append(m.S, seg(9, 0))[:5]}
	if e := checkCheck(t, n); e != api.OK || n.T[:4][3] != tri(0, 0, 0) || n.S[:6][5] != seg(9, 0) {
		t.Error(e, n)
	}
	// S shares no memory with Edges, where both are the same.
	triangle := api.Poly{P: square().P[:3], L: around(rising(0, 3))}
	edges, _ := fill.Edges(triangle)
	same, _ := fill.Make(triangle)
	set(edges, seg(8, 8))
	if !slices.Equal(same.S, segs(0, 1, 0, 2, 1, 2)) {
		t.Error(same.S)
	}
}

// R4: what was asked ahead changes no answer.
func TestSameAgain(t *testing.T) {
	list := append(samples(), flawed()...)
	for _, x := range list {
		for _, y := range list {
			for _, s := range []sample{x, y, x} {
				m, e := fill.Make(s.p)
				if !slices.Equal(m.T, s.want) || (e == api.OK) != (s.want != nil) {
					t.Fatalf("%s: %v, %d, want %v", s.name, m, e, s.want)
				}
			}
		}
	}
}

// R6: nil is as empty as others are.
func TestNilAndEmpty(t *testing.T) {
	m := twoTris()
	for _, none := range [][]api.Seg{nil, {}, segs(0, 1)[:0]} {
		for _, p := range [][]api.Point{nil, {}, points(0, 0)[:0]} {
			checkWrong(t, api.Poly{P: p, L: none, I: none})
			for _, l := range [][]api.Tri{nil, {}, tris(0, 1, 2)[:0]} {
				if e := checkCheck(t, api.Mesh{P: p, T: l, S: none}); e != api.OK {
					t.Error(e)
				}
				if e := checkCheck(t, api.Mesh{P: m.P, T: l, S: none}); e != api.OK {
					t.Error(e)
				}
				if f := fill.Faces(l); len(f) != 0 {
					t.Error(f)
				}
			}
			if x, ok := fill.Tri(p, 0, 0, 0); ok || x != tri(0, 0, 0) {
				t.Error(x, ok)
			}
		}
		checkWrong(t, api.Poly{P: square().P, L: none, I: none})
		check(t, api.Poly{P: square().P, L: square().L, I: none})
		if e := checkCheck(t, api.Mesh{P: m.P, T: m.T, S: none}); e != api.ErrArg {
			t.Error(e)
		}
	}
}

// grown reads an input from bytes: points in small steps at a place, then segments of L and of I by turns of eight.
func grown(b []byte, x, y int) api.Poly {
	var p api.Poly
	for len(b) > 0 && b[0] < 128 {
		p.P = append(p.P, at(x+int(b[0]%11)-5, y+int(b[0]/11)-5))
		b = b[1:]
	}
	for i := 0; i+1 < len(b); i += 2 {
		s := seg(int(b[i])-129, int(b[i+1])-129)
		if i/16%2 == 0 {
			p.L = append(p.L, s)
		} else {
			p.I = append(p.I, s)
		}
	}
	return p
}

func FuzzPoly(f *testing.F) {
	f.Add([]byte{0, 4, 48, 44, 129, 130, 130, 131, 131, 132, 132, 129}, 0, 0)
	f.Add([]byte{0, 10, 120, 110, 24, 26, 48, 129, 130, 130, 131, 131, 132, 132, 129, 133, 134, 134, 135, 135, 133}, place-5, 5-place)
	f.Add([]byte{0, 10, 120, 110, 60, 129, 130, 130, 131, 131, 132, 132, 129, 129, 130, 130, 131, 131, 132, 132, 129, 129, 133}, 0, 0)
	f.Add([]byte{0, 10, 120, 129, 130, 128, 140}, 1<<32, -1<<32)
	f.Fuzz(func(t *testing.T, b []byte, x, y int) {
		check(t, grown(b[:min(len(b), 80)], x, y))
	})
}

// meshOf reads a mesh from bytes: points in a small grid, then triangles and segments.
func meshOf(b []byte, count int) api.Mesh {
	var m api.Mesh
	for len(b) > 0 && b[0] < 128 {
		m.P = append(m.P, at(int(b[0]%11), int(b[0]/11)))
		b = b[1:]
	}
	for ; len(b) >= 3 && count > 0; count-- {
		m.T = append(m.T, tri(int(b[0])-129, int(b[1])-129, int(b[2])-129))
		b = b[3:]
	}
	for ; len(b) >= 2; b = b[2:] {
		m.S = append(m.S, seg(int(b[0])-129, int(b[1])-129))
	}
	return m
}

func FuzzMesh(f *testing.F) {
	f.Add([]byte{0, 4, 48, 44, 129, 130, 131, 129, 131, 132, 129, 130, 129, 132, 130, 131, 131, 132}, 2)
	f.Add([]byte{0, 4, 44, 129, 130, 131, 129, 130, 129, 131, 130, 131}, 1)
	f.Add([]byte{0, 4, 128, 129, 130}, 0)
	f.Fuzz(func(t *testing.T, b []byte, count int) {
		m := meshOf(b[:min(len(b), 80)], min(count, 20))
		checkCheck(t, m)
		for _, x := range m.T {
			checkTri(t, m.P, x.A, x.B, x.C)
		}
		if l := fill.Faces(m.T); len(l) != len(m.T) {
			t.Fatal(l)
		}
	})
}
