package insert_test

import (
	"cmp"
	"math/big"
	"math/rand/v2"
	"slices"
	"testing"

	"parquet/api"
	"parquet/fill"
	"parquet/insert"
	"parquet/valid"
)

func at(x, y int) api.Point {
	return api.Point{X: x, Y: y}
}

func points(xy ...int) []api.Point {
	var p []api.Point
	for i := 0; i < len(xy); i += 2 {
		p = append(p, at(xy[i], xy[i+1]))
	}
	return p
}

func each(p []api.Point, f func(api.Point) api.Point) []api.Point {
	var out []api.Point
	for _, q := range p {
		out = append(out, f(q))
	}
	return out
}

func seg(a, b int) api.Seg {
	return api.Seg{A: a, B: b}
}

// segs has a segment for each two numbers.
func segs(ends ...int) []api.Seg {
	var l []api.Seg
	for i := 0; i < len(ends); i += 2 {
		l = append(l, seg(ends[i], ends[i+1]))
	}
	return l
}

func tri(a, b, c int) api.Tri {
	return api.Tri{A: a, B: b, C: c}
}

// tris has a triangle for each three numbers.
func tris(corners ...int) []api.Tri {
	var l []api.Tri
	for i := 0; i < len(corners); i += 3 {
		l = append(l, tri(corners[i], corners[i+1], corners[i+2]))
	}
	return l
}

// around has the segments of the ring.
func around(ring []int) []api.Seg {
	var l []api.Seg
	for i, a := range ring {
		l = append(l, seg(a, ring[(i+1)%len(ring)]))
	}
	return l
}

// rising has the numbers from to until - 1.
func rising(from, until int) []int {
	var l []int
	for i := from; i < until; i++ {
		l = append(l, i)
	}
	return l
}

func clone(m api.Mesh) api.Mesh {
	return api.Mesh{P: slices.Clone(m.P), T: slices.Clone(m.T), S: slices.Clone(m.S)}
}

func equal(m, n api.Mesh) bool {
	return slices.Equal(m.P, n.P) && slices.Equal(m.T, n.T) && slices.Equal(m.S, n.S)
}

func isNone(m api.Mesh) bool {
	return m.P == nil && m.T == nil && m.S == nil
}

func sortSegs(l []api.Seg) []api.Seg {
	slices.SortFunc(l, func(s, r api.Seg) int { return slices.Compare([]int{s.A, s.B}, []int{r.A, r.B}) })
	return slices.Compact(l)
}

// has looks for s in a sorted list.
func has(l []api.Seg, s api.Seg) bool {
	_, found := slices.BinarySearchFunc(l, s, func(s, r api.Seg) int { return cmp.Or(cmp.Compare(s.A, r.A), cmp.Compare(s.B, r.B)) })
	return found
}

func sortTris(l []api.Tri) []api.Tri {
	slices.SortFunc(l, func(x, y api.Tri) int { return slices.Compare([]int{x.A, x.B, x.C}, []int{y.A, y.B, y.C}) })
	return slices.Compact(l)
}

// sides has the edges of a triangle, in its direction.
func sides(x api.Tri) []api.Seg {
	return segs(x.A, x.B, x.B, x.C, x.C, x.A)
}

func ordered(s api.Seg) api.Seg {
	return seg(min(s.A, s.B), max(s.A, s.B))
}

// edges has all edges of the triangles, each once, with A less than B, in order.
func edges(m api.Mesh) []api.Seg {
	var l []api.Seg
	for _, x := range m.T {
		for _, s := range sides(x) {
			l = append(l, ordered(s))
		}
	}
	return sortSegs(l)
}

// closed has these triangles, with the edges of one triangle alone, and some more, as segments.
func closed(p []api.Point, l []api.Tri, more ...api.Seg) api.Mesh {
	m := api.Mesh{P: p, T: sortTris(slices.Clone(l))}
	beside := map[api.Seg]int{}
	for _, x := range m.T {
		for _, s := range sides(x) {
			beside[ordered(s)]++
		}
	}
	m.S = slices.Clone(more)
	for s, n := range beside {
		if n == 1 {
			m.S = append(m.S, s)
		}
	}
	m.S = sortSegs(m.S)
	return m
}

// What the chapter says, told another way: by looking through the lists, by boxes, and by sums of areas.

// area is twice that of the triangle, whichever way it turns.
func area(a, b, c api.Point) *big.Int {
	by := func(x, y int) *big.Int { return new(big.Int).Mul(big.NewInt(int64(x)), big.NewInt(int64(y))) }
	d := new(big.Int).Sub(by(b.X-a.X, c.Y-a.Y), by(b.Y-a.Y, c.X-a.X))
	return d.Abs(d)
}

// whole is twice the area of all triangles.
func whole(m api.Mesh) *big.Int {
	sum := new(big.Int)
	for _, x := range m.T {
		sum.Add(sum, area(m.P[x.A], m.P[x.B], m.P[x.C]))
	}
	return sum
}

// between tells whether q is on the way from a to b: in their box, and not beside their line.
func between(a, b, q api.Point) bool {
	inBox := min(a.X, b.X) <= q.X && q.X <= max(a.X, b.X) && min(a.Y, b.Y) <= q.Y && q.Y <= max(a.Y, b.Y)
	return inBox && q != a && q != b && area(a, b, q).Sign() == 0
}

// covered tells whether q is in the triangle, or on its edges: seen from there, the edges have areas whose sum is that of the triangle.
func covered(a, b, c, q api.Point) bool {
	sum := new(big.Int).Add(area(a, b, q), area(b, c, q))
	return sum.Add(sum, area(c, a, q)).Cmp(area(a, b, c)) == 0
}

func wantFind(m api.Mesh, q api.Point) api.Spot {
	for i, p := range m.P {
		if p == q {
			return api.Spot{Kind: api.SpotPlace, Place: i}
		}
	}
	for _, s := range edges(m) {
		if between(m.P[s.A], m.P[s.B], q) {
			return api.Spot{Kind: api.SpotEdge, Edge: s}
		}
	}
	for i, x := range m.T {
		if covered(m.P[x.A], m.P[x.B], m.P[x.C], q) {
			return api.Spot{Kind: api.SpotTri, Tri: i}
		}
	}
	return api.Spot{}
}

// begun has the same triangle from its smallest number on.
func begun(a, b, c int) api.Tri {
	for b < a || c < a {
		a, b, c = b, c, a
	}
	return tri(a, b, c)
}

// wantParts has what becomes of the triangle x, which is number i.
func wantParts(x api.Tri, i, n int, spot api.Spot) []api.Tri {
	if spot.Kind == api.SpotTri && spot.Tri == i {
		return []api.Tri{begun(x.A, x.B, n), begun(x.B, x.C, n), begun(x.C, x.A, n)}
	}
	for _, r := range tris(x.A, x.B, x.C, x.B, x.C, x.A, x.C, x.A, x.B) {
		if spot.Kind == api.SpotEdge && spot.Edge == ordered(seg(r.A, r.B)) {
			return []api.Tri{begun(r.A, n, r.C), begun(n, r.B, r.C)}
		}
	}
	return []api.Tri{x}
}

func wantAdd(m api.Mesh, q api.Point) (api.Mesh, api.Errno) {
	spot, n := wantFind(m, q), len(m.P)
	switch spot.Kind {
	case api.SpotPlace:
		return api.Mesh{}, api.ErrTwice
	case api.SpotNone:
		return api.Mesh{}, api.ErrNone
	}
	out := api.Mesh{P: append(slices.Clone(m.P), q)}
	for i, x := range m.T {
		out.T = append(out.T, wantParts(x, i, n, spot)...)
	}
	for _, s := range m.S {
		if spot.Kind == api.SpotEdge && s == spot.Edge {
			out.S = append(out.S, seg(s.A, n), seg(s.B, n))
		} else {
			out.S = append(out.S, s)
		}
	}
	out.T, out.S = sortTris(out.T), sortSegs(out.S)
	return out, api.OK
}

// found counts where the points were that were looked for: inner and rim are edges, by how many triangles they have, and stay is an inner one of S.
type found struct {
	places, inner, rim, stay, tris, none int
}

func (f *found) add(g found) {
	f.places += g.places
	f.inner += g.inner
	f.rim += g.rim
	f.stay += g.stay
	f.tris += g.tris
	f.none += g.none
}

// count tells the kind of a spot.
func count(m api.Mesh, spot api.Spot) found {
	switch spot.Kind {
	case api.SpotPlace:
		return found{places: 1}
	case api.SpotTri:
		return found{tris: 1}
	case api.SpotNone:
		return found{none: 1}
	}
	beside := 0
	for _, x := range m.T {
		for _, s := range sides(x) {
			if ordered(s) == spot.Edge {
				beside++
			}
		}
	}
	switch {
	case beside == 1:
		return found{rim: 1}
	case slices.Contains(m.S, spot.Edge):
		return found{stay: 1}
	default:
		return found{inner: 1}
	}
}

// check holds Find and Add of one point, which fits, against what the chapter says.
func check(t *testing.T, m api.Mesh, q api.Point) found {
	t.Helper()
	kept := clone(m)
	want := wantFind(m, q)
	if spot, e := insert.Find(m, q); spot != want || e != api.OK {
		t.Fatalf("Find(%v, %v) = %v, %d, want %v", m, q, spot, e, want)
	}
	wantM, wantE := wantAdd(m, q)
	n, e := insert.Add(m, q)
	if !equal(n, wantM) || e != wantE {
		t.Fatalf("Add(%v, %v) = %v, %d, want %v, %d", m, q, n, e, wantM, wantE)
	}
	if e != api.OK && !isNone(n) {
		t.Fatalf("Add(%v, %v) = %v, %d", m, q, n, e)
	}
	if !equal(m, kept) {
		t.Fatalf("%v was changed to %v", kept, m)
	}
	if e == api.OK {
		checkAdded(t, m, q, n)
	}
	return count(m, want)
}

// checkAdded wants of n what the chapter says of every mesh to which a point was added.
func checkAdded(t *testing.T, m api.Mesh, q api.Point, n api.Mesh) {
	t.Helper()
	if e := fill.Check(n); e != api.OK {
		t.Fatalf("Add(%v, %v) = %v, which is refused", m, q, n)
	}
	if !slices.Equal(n.P[:len(m.P)], m.P) || len(n.P) != len(m.P)+1 || n.P[len(m.P)] != q {
		t.Fatalf("Add(%v, %v) has the points %v", m, q, n.P)
	}
	if was, is := whole(m), whole(n); was.Cmp(is) != 0 {
		t.Fatalf("Add(%v, %v) = %v has twice the area %v, not %v", m, q, n, is, was)
	}
	kept := 0
	for _, s := range m.S {
		if has(n.S, s) {
			kept++
		} else if !between(m.P[s.A], m.P[s.B], q) || !has(n.S, seg(s.A, len(m.P))) || !has(n.S, seg(s.B, len(m.P))) {
			t.Fatalf("%v is lost in Add(%v, %v) = %v", s, m, q, n)
		}
	}
	if len(m.S)-kept > 1 || len(n.S) != kept+2*(len(m.S)-kept) {
		t.Fatalf("Add(%v, %v) has the segments %v", m, q, n.S)
	}
	if spot, e := insert.Find(n, q); spot != (api.Spot{Kind: api.SpotPlace, Place: len(m.P)}) || e != api.OK {
		t.Fatalf("Find(%v, %v) = %v, %d", n, q, spot, e)
	}
	if n, e := insert.Add(n, q); !isNone(n) || e != api.ErrTwice {
		t.Fatalf("%v is added again: %v, %d", q, n, e)
	}
}

// checkGrid holds all points of a grid around the mesh.
func checkGrid(t *testing.T, m api.Mesh) found {
	t.Helper()
	low, high := box(m)
	var f found
	for x := low.X - 1; x <= high.X+1; x++ {
		for y := low.Y - 1; y <= high.Y+1; y++ {
			f.add(check(t, m, at(x, y)))
		}
	}
	return f
}

// box has the least and the greatest X and Y of the points, of which there are some.
func box(m api.Mesh) (api.Point, api.Point) {
	low, high := m.P[0], m.P[0]
	for _, q := range m.P {
		low = at(min(low.X, q.X), min(low.Y, q.Y))
		high = at(max(high.X, q.X), max(high.Y, q.Y))
	}
	return low, high
}

// checkRefused wants what is told of a mesh that fill.Check refuses.
func checkRefused(t *testing.T, m api.Mesh, more ...api.Point) {
	t.Helper()
	if e := fill.Check(m); e != api.ErrArg {
		t.Fatalf("Check(%v) = %d", m, e)
	}
	checkWrong(t, m, append(points(0, 0, 2, 2, 3, 1, -9, 99, api.Bound+1, 0), more...)...)
	for _, by := range []int{1, 2, 0, -1} {
		if n, e := insert.Grow(m, by); !isNone(n) || e != api.ErrArg {
			t.Fatalf("Grow(%v, %d) = %v, %d", m, by, n, e)
		}
	}
}

// checkWrong wants Find and Add to take none of these points.
func checkWrong(t *testing.T, m api.Mesh, l ...api.Point) {
	t.Helper()
	kept := clone(m)
	for _, q := range l {
		if spot, e := insert.Find(m, q); spot != (api.Spot{}) || e != api.ErrArg {
			t.Fatalf("Find(%v, %v) = %v, %d", m, q, spot, e)
		}
		if n, e := insert.Add(m, q); !isNone(n) || e != api.ErrArg {
			t.Fatalf("Add(%v, %v) = %v, %d", m, q, n, e)
		}
	}
	if !equal(m, kept) {
		t.Fatalf("%v was changed to %v", kept, m)
	}
}

// wantGrow multiplies without bounds, and holds the products against them.
func wantGrow(m api.Mesh, by int) (api.Mesh, api.Errno) {
	if by < 1 || by > api.Bound {
		return api.Mesh{}, api.ErrArg
	}
	out, ok := clone(m), true
	times := func(c int) int {
		x := new(big.Int).Mul(big.NewInt(int64(c)), big.NewInt(int64(by)))
		ok = ok && new(big.Int).Abs(x).Cmp(big.NewInt(api.Bound)) <= 0
		return int(x.Int64())
	}
	for i, q := range m.P {
		out.P[i] = at(times(q.X), times(q.Y))
	}
	if !ok {
		return api.Mesh{}, api.ErrArg
	}
	return out, api.OK
}

// checkGrow holds Grow, for a valid mesh, and returns whether it grew.
func checkGrow(t *testing.T, m api.Mesh, by int) bool {
	t.Helper()
	kept := clone(m)
	want, wantE := wantGrow(m, by)
	n, e := insert.Grow(m, by)
	if !equal(n, want) || e != wantE || e != api.OK && !isNone(n) {
		t.Fatalf("Grow(%v, %d) = %v, %d, want %v, %d", m, by, n, e, want, wantE)
	}
	if e == api.OK && fill.Check(n) != api.OK {
		t.Fatalf("Grow(%v, %d) = %v, which is refused", m, by, n)
	}
	if !equal(m, kept) {
		t.Fatalf("%v was changed to %v", kept, m)
	}
	return e == api.OK
}

// made is the mesh that fill makes of a right input.
func made(t *testing.T, p api.Poly) api.Mesh {
	t.Helper()
	m, e := fill.Make(p)
	if e != api.OK {
		t.Fatalf("Make(%v): %d", p, e)
	}
	return m
}

func isRight(p api.Poly) bool {
	f, e := valid.First(p)
	return f.Kind == api.FlawNone && e == api.OK
}

// with is p with more at the ends of its lists.
func with(p api.Poly, more []api.Point, l, i []api.Seg) api.Poly {
	return api.Poly{P: slices.Concat(p.P, more), L: slices.Concat(p.L, l), I: slices.Concat(p.I, i)}
}

// renumbered has the same points and segments, with other numbers.
func renumbered(r *rand.Rand, p api.Poly) api.Poly {
	names := r.Perm(len(p.P))
	q := with(p, nil, nil, nil)
	for i, name := range names {
		q.P[name] = p.P[i]
	}
	for _, l := range [][]api.Seg{q.L, q.I} {
		for i, s := range l {
			l[i] = seg(names[s.A], names[s.B])
		}
	}
	return q
}

// drawn is a right input: a square, into which points, holes and segments are laid, as far as it stays right.
func drawn(r *rand.Rand, steps, size int) api.Poly {
	p := api.Poly{P: points(0, 0, size, 0, size, size, 0, size), L: around(rising(0, 4))}
	spot := func() api.Point { return at(r.IntN(size+1), r.IntN(size+1)) }
	near := func(q api.Point) api.Point { return at(q.X+r.IntN(size/2)-size/4, q.Y+r.IntN(size/2)-size/4) }
	for range steps {
		n, q := len(p.P), spot()
		next := with(p, []api.Point{q}, nil, nil)
		switch r.IntN(6) {
		case 0:
			next = with(p, []api.Point{q, near(q), near(q)}, around([]int{n, n + 1, n + 2}), nil)
		case 1, 2:
			next = with(p, nil, nil, segs(r.IntN(n), r.IntN(n)))
		}
		if isRight(next) {
			p = next
		}
	}
	return renumbered(r, p)
}

// sheets are triangles of few points, laid as long as no two have an edge in the same direction: they may overlap, and go round a point more than once.
func sheets(r *rand.Rand, n, size int) api.Mesh {
	var p []api.Point
	for range n {
		p = append(p, at(r.IntN(size), r.IntN(size)))
	}
	var l []api.Tri
	taken := map[api.Seg]int{}
	for range 1 + r.IntN(6*n) {
		x, ok := fill.Tri(p, r.IntN(n), r.IntN(n), r.IntN(n))
		if !ok || taken[seg(x.A, x.B)]+taken[seg(x.B, x.C)]+taken[seg(x.C, x.A)] > 0 {
			continue
		}
		l = append(l, x)
		for _, s := range sides(x) {
			taken[s]++
		}
	}
	m := closed(p, l)
	if l := edges(m); len(l) > 0 && r.IntN(2) == 0 {
		m.S = sortSegs(append(m.S, l[r.IntN(len(l))]))
	}
	return m
}
