package flips_test

import (
	"math/big"
	"math/rand/v2"
	"slices"
	"testing"

	"parquet/api"
	"parquet/fill"
	"parquet/flips"
	"parquet/valid"
)

func at(x, y int) api.Point {
	return api.Point{X: x, Y: y}
}

func points(xy ...int) []api.Point {
	var p []api.Point
	for i := 0; i < len(xy); i += 2 {
		p = append(p, at(xy[i], xy[i+1]))
	}
	return p
}

func each(p []api.Point, f func(api.Point) api.Point) []api.Point {
	var out []api.Point
	for _, q := range p {
		out = append(out, f(q))
	}
	return out
}

func seg(a, b int) api.Seg {
	return api.Seg{A: a, B: b}
}

// segs has a segment for each two numbers.
func segs(ends ...int) []api.Seg {
	var l []api.Seg
	for i := 0; i < len(ends); i += 2 {
		l = append(l, seg(ends[i], ends[i+1]))
	}
	return l
}

func tri(a, b, c int) api.Tri {
	return api.Tri{A: a, B: b, C: c}
}

// tris has a triangle for each three numbers.
func tris(corners ...int) []api.Tri {
	var l []api.Tri
	for i := 0; i < len(corners); i += 3 {
		l = append(l, tri(corners[i], corners[i+1], corners[i+2]))
	}
	return l
}

// around has the segments of the ring.
func around(ring []int) []api.Seg {
	var l []api.Seg
	for i, a := range ring {
		l = append(l, seg(a, ring[(i+1)%len(ring)]))
	}
	return l
}

// rising has the numbers from to until - 1.
func rising(from, until int) []int {
	var l []int
	for i := from; i < until; i++ {
		l = append(l, i)
	}
	return l
}

func clone(m api.Mesh) api.Mesh {
	return api.Mesh{P: slices.Clone(m.P), T: slices.Clone(m.T), S: slices.Clone(m.S)}
}

func equal(m, n api.Mesh) bool {
	return slices.Equal(m.P, n.P) && slices.Equal(m.T, n.T) && slices.Equal(m.S, n.S)
}

func isNone(m api.Mesh) bool {
	return m.P == nil && m.T == nil && m.S == nil
}

func sortSegs(l []api.Seg) []api.Seg {
	slices.SortFunc(l, func(s, r api.Seg) int { return slices.Compare([]int{s.A, s.B}, []int{r.A, r.B}) })
	return slices.Compact(l)
}

func sortTris(l []api.Tri) []api.Tri {
	slices.SortFunc(l, func(x, y api.Tri) int { return slices.Compare([]int{x.A, x.B, x.C}, []int{y.A, y.B, y.C}) })
	return slices.Compact(l)
}

// sides has the edges of a triangle, in its direction.
func sides(x api.Tri) []api.Seg {
	return segs(x.A, x.B, x.B, x.C, x.C, x.A)
}

// edges has all edges of the triangles, each once, with A less than B, in order.
func edges(m api.Mesh) []api.Seg {
	var l []api.Seg
	for _, x := range m.T {
		for _, s := range sides(x) {
			l = append(l, seg(min(s.A, s.B), max(s.A, s.B)))
		}
	}
	return sortSegs(l)
}

// closed has these triangles, with the edges of one triangle alone, and some more, as segments.
func closed(p []api.Point, l []api.Tri, more ...api.Seg) api.Mesh {
	m := api.Mesh{P: p, T: sortTris(slices.Clone(l))}
	beside := map[api.Seg]int{}
	for _, x := range m.T {
		for _, s := range sides(x) {
			beside[seg(min(s.A, s.B), max(s.A, s.B))]++
		}
	}
	m.S = slices.Clone(more)
	for s, n := range beside {
		if n == 1 {
			m.S = append(m.S, s)
		}
	}
	m.S = sortSegs(m.S)
	return m
}

// What the chapter says, told another way: by looking through the lists, by crossing diagonals, and by the sum of opposite angles.

func number(n int) *big.Int {
	return big.NewInt(int64(n))
}

func product(a, b *big.Int) *big.Int {
	return new(big.Int).Mul(a, b)
}

func sum(l ...*big.Int) *big.Int {
	s := new(big.Int)
	for _, n := range l {
		s.Add(s, n)
	}
	return s
}

// angle has what the sine and the cosine of the angle at c from a to b are multiples of, by as much.
func angle(c, a, b api.Point) (*big.Int, *big.Int) {
	ax, ay, bx, by := number(a.X-c.X), number(a.Y-c.Y), number(b.X-c.X), number(b.Y-c.Y)
	return new(big.Int).Sub(product(ax, by), product(ay, bx)), sum(product(ax, bx), product(ay, by))
}

// turn is 1 for a path from a via b to c that turns left.
func turn(a, b, c api.Point) int {
	sine, _ := angle(a, b, c)
	return sine.Sign()
}

// wide tells whether the angles at c and d, which are on different sides of a and b, have a sum of more than two right angles.
func wide(a, b, c, d api.Point) bool {
	sineC, cosineC := angle(c, a, b)
	sineD, cosineD := angle(d, b, a)
	return sum(product(sineC, cosineD), product(cosineC, sineD)).Sign() < 0
}

// inCircle tells whether q is inside the circle through a, b and c, which turn left.
func inCircle(a, b, c, q api.Point) bool {
	row := func(p api.Point) (*big.Int, *big.Int, *big.Int) {
		x, y := number(p.X-q.X), number(p.Y-q.Y)
		return x, y, sum(product(x, x), product(y, y))
	}
	ax, ay, az := row(a)
	bx, by, bz := row(b)
	cx, cy, cz := row(c)
	minor := func(x, y, z, w *big.Int) *big.Int { return new(big.Int).Sub(product(x, w), product(y, z)) }
	return sum(product(az, minor(bx, by, cx, cy)), product(bz, minor(cx, cy, ax, ay)), product(cz, minor(ax, ay, bx, by))).Sign() > 0
}

// wantThird looks for the triangle with the edge from a to b.
func wantThird(m api.Mesh, a, b int) (int, bool) {
	for _, x := range m.T {
		switch seg(a, b) {
		case seg(x.A, x.B):
			return x.C, true
		case seg(x.B, x.C):
			return x.A, true
		case seg(x.C, x.A):
			return x.B, true
		}
	}
	return 0, false
}

func wantAcross(m api.Mesh, a, b int) (int, int, bool) {
	c, left := wantThird(m, a, b)
	d, right := wantThird(m, b, a)
	if !left || !right {
		return 0, 0, false
	}
	return c, d, true
}

// wantFree tells whether all that May and Bad have in common holds.
func wantFree(m api.Mesh, a, b int) bool {
	c, d, ok := wantAcross(m, a, b)
	_, there := wantThird(m, c, d)
	_, back := wantThird(m, d, c)
	return ok && !there && !back && !slices.Contains(m.S, seg(a, b)) && !slices.Contains(m.S, seg(b, a))
}

func wantMay(m api.Mesh, a, b int) bool {
	c, d, _ := wantAcross(m, a, b)
	return wantFree(m, a, b) && turn(m.P[d], m.P[c], m.P[a]) > 0 && turn(m.P[d], m.P[c], m.P[b]) < 0
}

func wantBad(m api.Mesh, a, b int) bool {
	c, d, _ := wantAcross(m, a, b)
	return wantFree(m, a, b) && wide(m.P[a], m.P[b], m.P[c], m.P[d])
}

// wantFlip is for an edge that may be flipped: each triangle with it goes, and two come.
func wantFlip(m api.Mesh, a, b int) api.Mesh {
	c, d, _ := wantAcross(m, a, b)
	n := clone(m)
	n.T = nil
	for _, x := range m.T {
		if l := sides(x); !slices.Contains(l, seg(a, b)) && !slices.Contains(l, seg(b, a)) {
			n.T = append(n.T, x)
		}
	}
	for _, x := range tris(a, d, c, d, c, a, c, a, d, b, c, d, c, d, b, d, b, c) {
		if x.A < x.B && x.A < x.C {
			n.T = append(n.T, x)
		}
	}
	n.T = sortTris(n.T)
	return n
}

func wantNext(m api.Mesh) (api.Seg, bool) {
	for _, s := range edges(m) {
		if wantBad(m, s.A, s.B) {
			return s, true
		}
	}
	return api.Seg{}, false
}

func wantDelaunay(m api.Mesh) (api.Mesh, int) {
	for n := 0; ; n++ {
		s, ok := wantNext(m)
		if !ok {
			return m, n
		}
		m = wantFlip(m, s.A, s.B)
	}
}

// found counts what occurred in meshes that were checked.
type found struct {
	meshes, may, bad, held, flips int
}

// check holds all calls against what the chapter says, for each two numbers of points and some that are none.
func check(t *testing.T, m api.Mesh) found {
	t.Helper()
	kept := clone(m)
	if e := fill.Check(m); e != api.OK {
		t.Fatalf("Check(%v) = %d", m, e)
	}
	f := found{meshes: 1}
	for a := -1; a <= len(m.P); a++ {
		for b := -1; b <= len(m.P); b++ {
			f.add(checkEdge(t, m, a, b))
		}
	}
	f.flips = checkWhole(t, m)
	if !equal(m, kept) {
		t.Fatalf("%v was changed to %v", kept, m)
	}
	return f
}

func (f *found) add(g found) {
	f.meshes += g.meshes
	f.may += g.may
	f.bad += g.bad
	f.held += g.held
	f.flips += g.flips
}

// checkEdge holds what is told of one edge.
func checkEdge(t *testing.T, m api.Mesh, a, b int) found {
	t.Helper()
	wantC, wantD, wantOK := wantAcross(m, a, b)
	if c, d, ok := flips.Across(m, a, b); c != wantC || d != wantD || ok != wantOK {
		t.Fatalf("Across(%v, %d, %d) = %d, %d, %v, want %d, %d, %v", m, a, b, c, d, ok, wantC, wantD, wantOK)
	}
	may, bad := flips.May(m, a, b), flips.Bad(m, a, b)
	if want := wantMay(m, a, b); may != want {
		t.Fatalf("May(%v, %d, %d) = %v", m, a, b, may)
	}
	if want := wantBad(m, a, b); bad != want {
		t.Fatalf("Bad(%v, %d, %d) = %v", m, a, b, bad)
	}
	if bad && !may {
		t.Fatalf("%d-%d of %v is bad, but may not be flipped", a, b, m)
	}
	n, e := flips.Flip(m, a, b)
	if !may && (!isNone(n) || e != api.ErrFlip) {
		t.Fatalf("Flip(%v, %d, %d) = %v, %d", m, a, b, n, e)
	}
	var f found
	if may {
		f.may++
		checkFlipped(t, m, a, b, n, e)
	}
	if bad {
		f.bad++
		if flips.Bad(n, wantC, wantD) {
			t.Fatalf("%d-%d of %v is bad, and is so after its flip", a, b, m)
		}
	}
	if wantOK && !slices.Contains(m.S, seg(min(a, b), max(a, b))) && wide(m.P[a], m.P[b], m.P[wantC], m.P[wantD]) && !bad {
		f.held++
	}
	return f
}

// checkFlipped wants n to be m with the edge between a and b flipped, and flipping that one to be the way back.
func checkFlipped(t *testing.T, m api.Mesh, a, b int, n api.Mesh, e api.Errno) {
	t.Helper()
	if want := wantFlip(m, a, b); !equal(n, want) || e != api.OK {
		t.Fatalf("Flip(%v, %d, %d) = %v, %d, want %v", m, a, b, n, e, want)
	}
	if e := fill.Check(n); e != api.OK {
		t.Fatalf("Flip(%v, %d, %d) = %v, which is refused", m, a, b, n)
	}
	c, d, _ := wantAcross(m, a, b)
	for _, s := range segs(c, d, d, c) {
		if back, e := flips.Flip(n, s.A, s.B); !equal(back, m) || e != api.OK {
			t.Fatalf("Flip(%v, %d, %d) = %v, %d, want %v", n, s.A, s.B, back, e, m)
		}
	}
}

// checkWhole holds Next and Delaunay, and returns how many flips there were.
func checkWhole(t *testing.T, m api.Mesh) int {
	t.Helper()
	wantS, wantOK := wantNext(m)
	if s, ok := flips.Next(m); s != wantS || ok != wantOK {
		t.Fatalf("Next(%v) = %v, %v, want %v, %v", m, s, ok, wantS, wantOK)
	}
	want, wantCount := wantDelaunay(m)
	n, count, e := flips.Delaunay(m)
	if !equal(n, want) || count != wantCount || e != api.OK {
		t.Fatalf("Delaunay(%v) = %v, %d, %d, want %v, %d", m, n, count, e, want, wantCount)
	}
	checkDone(t, m, n)
	return count
}

// checkDone wants n to be what flips of m may lead to, with no bad edge left.
func checkDone(t *testing.T, m, n api.Mesh) {
	t.Helper()
	if e := fill.Check(n); e != api.OK || !slices.Equal(n.P, m.P) || !slices.Equal(n.S, m.S) || len(n.T) != len(m.T) {
		t.Fatalf("Delaunay(%v) = %v, which Check calls %d", m, n, e)
	}
	if s, ok := flips.Next(n); s != seg(0, 0) || ok {
		t.Fatalf("Next(%v) = %v, %v", n, s, ok)
	}
	if again, count, e := flips.Delaunay(n); !equal(again, n) || count != 0 || e != api.OK {
		t.Fatalf("Delaunay(%v) = %v, %d, %d", n, again, count, e)
	}
}

// checkRefused wants what is told of a mesh that fill.Check refuses.
func checkRefused(t *testing.T, m api.Mesh) {
	t.Helper()
	kept := clone(m)
	if e := fill.Check(m); e != api.ErrArg {
		t.Fatalf("Check(%v) = %d", m, e)
	}
	for a := -1; a <= min(len(m.P), 8); a++ {
		for b := -1; b <= min(len(m.P), 8); b++ {
			if c, d, ok := flips.Across(m, a, b); c != 0 || d != 0 || ok || flips.May(m, a, b) || flips.Bad(m, a, b) {
				t.Fatalf("Across, May or Bad(%v, %d, %d)", m, a, b)
			}
			if n, e := flips.Flip(m, a, b); !isNone(n) || e != api.ErrArg {
				t.Fatalf("Flip(%v, %d, %d) = %v, %d", m, a, b, n, e)
			}
		}
	}
	if s, ok := flips.Next(m); s != seg(0, 0) || ok {
		t.Fatalf("Next(%v) = %v, %v", m, s, ok)
	}
	if n, count, e := flips.Delaunay(m); !isNone(n) || count != 0 || e != api.ErrArg {
		t.Fatalf("Delaunay(%v) = %v, %d, %d", m, n, count, e)
	}
	if !equal(m, kept) {
		t.Fatalf("%v was changed to %v", kept, m)
	}
}

// all has the meshes to which flips lead from m, each with all calls checked.
func all(t *testing.T, m api.Mesh) []api.Mesh {
	t.Helper()
	l := []api.Mesh{m}
	for i := 0; i < len(l); i++ {
		check(t, l[i])
		for _, s := range edges(l[i]) {
			n, e := flips.Flip(l[i], s.A, s.B)
			known := slices.ContainsFunc(l, func(k api.Mesh) bool { return equal(k, n) })
			if e == api.OK && !known {
				l = append(l, n)
			}
		}
	}
	return l
}

// made is the mesh that fill makes of a right input.
func made(t *testing.T, p api.Poly) api.Mesh {
	t.Helper()
	m, e := fill.Make(p)
	if e != api.OK {
		t.Fatalf("Make(%v): %d", p, e)
	}
	return m
}

func isRight(p api.Poly) bool {
	f, e := valid.First(p)
	return f.Kind == api.FlawNone && e == api.OK
}

// with is p with more at the ends of its lists.
func with(p api.Poly, more []api.Point, l, i []api.Seg) api.Poly {
	return api.Poly{P: slices.Concat(p.P, more), L: slices.Concat(p.L, l), I: slices.Concat(p.I, i)}
}

// renumbered has the same points and segments, with other numbers.
func renumbered(r *rand.Rand, p api.Poly) api.Poly {
	names := r.Perm(len(p.P))
	q := with(p, nil, nil, nil)
	for i, name := range names {
		q.P[name] = p.P[i]
	}
	for _, l := range [][]api.Seg{q.L, q.I} {
		for i, s := range l {
			l[i] = seg(names[s.A], names[s.B])
		}
	}
	return q
}

// drawn is a right input: a square, into which points, holes and segments are laid, as far as it stays right.
func drawn(r *rand.Rand, steps, size int) api.Poly {
	p := api.Poly{P: points(0, 0, size, 0, size, size, 0, size), L: around(rising(0, 4))}
	spot := func() api.Point { return at(r.IntN(size+1), r.IntN(size+1)) }
	near := func(q api.Point) api.Point { return at(q.X+r.IntN(size/2)-size/4, q.Y+r.IntN(size/2)-size/4) }
	for range steps {
		n, q := len(p.P), spot()
		next := with(p, []api.Point{q}, nil, nil)
		switch r.IntN(6) {
		case 0:
			next = with(p, []api.Point{q, near(q), near(q)}, around([]int{n, n + 1, n + 2}), nil)
		case 1, 2:
			next = with(p, nil, nil, segs(r.IntN(n), r.IntN(n)))
		}
		if isRight(next) {
			p = next
		}
	}
	return renumbered(r, p)
}
