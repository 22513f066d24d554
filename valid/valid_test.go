package valid_test

import (
	"math"
	"math/rand/v2"
	"slices"
	"testing"

	"parquet/api"
	"parquet/input"
	"parquet/rings"
	"parquet/valid"
)

// The calls that the chapter lists, with their exact signatures: a change of one does not compile.
var (
	_ func(api.Poly) (api.Flaw, api.Errno) = valid.First
	_ func(api.Poly) ([][]int, api.Errno)  = valid.Loops
	_ func(api.Poly, int, int) bool        = valid.Inside
)

const place = api.MaxPlace

func at(x, y int) api.Point {
	return api.Point{X: x, Y: y}
}

func points(xy ...int) []api.Point {
	var p []api.Point
	for i := 0; i < len(xy); i += 2 {
		p = append(p, at(xy[i], xy[i+1]))
	}
	return p
}

func plus(p, q api.Point) api.Point {
	return at(p.X+q.X, p.Y+q.Y)
}

func minus(p, q api.Point) api.Point {
	return at(p.X-q.X, p.Y-q.Y)
}

// turned is p, a quarter turn to the left about the origin.
func turned(p api.Point) api.Point {
	return at(-p.Y, p.X)
}

func each(p []api.Point, f func(api.Point) api.Point) []api.Point {
	var out []api.Point
	for _, q := range p {
		out = append(out, f(q))
	}
	return out
}

func seg(a, b int) api.Seg {
	return api.Seg{A: a, B: b}
}

// segs has a segment for each two numbers.
func segs(ends ...int) []api.Seg {
	var l []api.Seg
	for i := 0; i < len(ends); i += 2 {
		l = append(l, seg(ends[i], ends[i+1]))
	}
	return l
}

// around has the segments of these rings.
func around(rings ...[]int) []api.Seg {
	var l []api.Seg
	for _, ring := range rings {
		for i, a := range ring {
			l = append(l, seg(a, ring[(i+1)%len(ring)]))
		}
	}
	return l
}

// rising has the numbers from to until - 1.
func rising(from, until int) []int {
	var l []int
	for i := from; i < until; i++ {
		l = append(l, i)
	}
	return l
}

func flaw(kind, a, b int) api.Flaw {
	return api.Flaw{Kind: kind, A: a, B: b}
}

func clone(p api.Poly) api.Poly {
	return api.Poly{P: slices.Clone(p.P), L: slices.Clone(p.L), I: slices.Clone(p.I)}
}

func equal(p, q api.Poly) bool {
	return slices.Equal(p.P, q.P) && slices.Equal(p.L, q.L) && slices.Equal(p.I, q.I)
}

// with is p with more at the ends of its lists.
func with(p api.Poly, more []api.Point, l, i []api.Seg) api.Poly {
	return api.Poly{P: slices.Concat(p.P, more), L: slices.Concat(p.L, l), I: slices.Concat(p.I, i)}
}

// square has the corners 0 to 3.
func square() api.Poly {
	return api.Poly{P: points(0, 0, 4, 0, 4, 4, 0, 4), L: around(rising(0, 4))}
}

// What the chapter says, told another way: with places on segments as fractions of these, and segments counted above a place.

func cross(u, v api.Point) int {
	return u.X*v.Y - u.Y*v.X
}

func dot(u, v api.Point) int {
	return u.X*v.X + u.Y*v.Y
}

// between tells whether q is inside the segment from a to b: its share of the way is more than nothing and less than all.
func between(a, b, q api.Point) bool {
	way, part := minus(b, a), minus(q, a)
	return cross(way, part) == 0 && dot(way, part) > 0 && dot(way, part) < dot(way, way)
}

// mayBoth tells whether the segments from a to b and from c to d have nothing in common, or one end of both.
func mayBoth(a, b, c, d api.Point) bool {
	u, v, w := minus(b, a), minus(d, c), minus(c, a)
	whole, s, r := cross(u, v), cross(w, v), cross(w, u)
	if whole < 0 {
		whole, s, r = -whole, -s, -r
	}
	switch {
	case whole > 0:
		// The lines have one place in common, at the shares s and r of whole.
		if s < 0 || s > whole || r < 0 || r > whole {
			return true
		}
		return (s == 0 || s == whole) && (r == 0 || r == whole)
	case r != 0:
		return true
	default:
		from, to := dot(u, w), dot(u, minus(d, a))
		return max(0, min(from, to)) >= min(dot(u, u), max(from, to))
	}
}

// enclosed tells whether an odd number of segments is above half of q, which is on none.
func enclosed(p []api.Point, l []api.Seg, q api.Point) bool {
	odd := false
	for _, s := range l {
		a, b := plus(p[s.A], p[s.A]), plus(p[s.B], p[s.B])
		if a.X > b.X {
			a, b = b, a
		}
		if a == q || b == q || between(a, b, q) {
			return false
		}
		if a.X <= q.X && q.X < b.X && cross(minus(b, a), minus(q, a)) < 0 {
			odd = !odd
		}
	}
	return odd
}

func refused(p api.Poly) bool {
	for _, q := range p.P {
		if q.X > place || q.X < -place || q.Y > place || q.Y < -place {
			return true
		}
	}
	for _, l := range [][]api.Seg{p.L, p.I} {
		for _, s := range l {
			if s.A < 0 || s.B < 0 || s.A > len(p.P)-1 || s.B > len(p.P)-1 {
				return true
			}
		}
	}
	return len(p.P) > 200 || len(p.L) > 400 || len(p.I) > 400
}

// wantOfPoints looks for what comes ahead of loops: what points and segments may not have in common.
func wantOfPoints(p api.Poly) api.Flaw {
	for i := range p.P {
		for k := i + 1; k < len(p.P); k++ {
			if p.P[i] == p.P[k] {
				return flaw(api.FlawAlike, i, k)
			}
		}
	}
	l := slices.Concat(p.L, p.I)
	for i, s := range l {
		if s.A == s.B {
			return flaw(api.FlawPoint, i, 0)
		}
	}
	for i, s := range l {
		for k := i + 1; k < len(l); k++ {
			if !mayBoth(p.P[s.A], p.P[s.B], p.P[l[k].A], p.P[l[k].B]) {
				return flaw(api.FlawMeet, i, k)
			}
		}
	}
	for i, q := range p.P {
		for k, s := range l {
			if between(p.P[s.A], p.P[s.B], q) {
				return flaw(api.FlawInside, i, k)
			}
		}
	}
	return api.Flaw{}
}

// ends is how many ends of l are at the point i.
func ends(l []api.Seg, i int) int {
	n := 0
	for _, s := range l {
		for _, end := range []int{s.A, s.B} {
			if end == i {
				n++
			}
		}
	}
	return n
}

func wantFirst(p api.Poly) (api.Flaw, api.Errno) {
	if refused(p) {
		return api.Flaw{}, api.ErrArg
	}
	if f := wantOfPoints(p); f != (api.Flaw{}) {
		return f, api.OK
	}
	for i := range p.P {
		if n := ends(p.L, i); n != 0 && n != 2 {
			return flaw(api.FlawRing, i, 0), api.OK
		}
	}
	if len(p.L) == 0 {
		return flaw(api.FlawEmpty, 0, 0), api.OK
	}
	for i, s := range p.I {
		if !enclosed(p.P, p.L, plus(p.P[s.A], p.P[s.B])) {
			return flaw(api.FlawOut, i, 0), api.OK
		}
	}
	for i, q := range p.P {
		if ends(p.L, i)+ends(p.I, i) == 0 && !enclosed(p.P, p.L, plus(q, q)) {
			return flaw(api.FlawStray, i, 0), api.OK
		}
	}
	return api.Flaw{}, api.OK
}

func isRight(p api.Poly) bool {
	f, e := wantFirst(p)
	return f == api.Flaw{} && e == api.OK
}

// wantLoops goes round from the smallest point that is left, first to the smaller of two neighbours.
func wantLoops(p api.Poly) ([][]int, api.Errno) {
	if !isRight(p) {
		return nil, api.ErrArg
	}
	var loops [][]int
	left := slices.Clone(p.L)
	for first := range p.P {
		ring := []int{first}
		for {
			// Of the segments that are left, take the one to the smallest neighbour.
			taken, next := -1, len(p.P)
			for i, s := range left {
				for _, way := range []api.Seg{s, seg(s.B, s.A)} {
					if way.A == ring[len(ring)-1] && way.B < next {
						taken, next = i, way.B
					}
				}
			}
			if taken < 0 {
				break
			}
			left = slices.Delete(left, taken, taken+1)
			ring = append(ring, next)
		}
		if len(ring) > 1 {
			loops = append(loops, ring[:len(ring)-1])
		}
	}
	return loops, api.OK
}

func has(l []api.Seg, a, b int) bool {
	return slices.Contains(l, seg(a, b)) || slices.Contains(l, seg(b, a))
}

// wantInside is for a right p.
func wantInside(p api.Poly, a, b int) bool {
	if a < 0 || b < 0 || a >= len(p.P) || b >= len(p.P) || a == b {
		return false
	}
	l := slices.Concat(p.L, p.I)
	for _, s := range l {
		if !has(l, a, b) && !mayBoth(p.P[a], p.P[b], p.P[s.A], p.P[s.B]) {
			return false
		}
	}
	for _, q := range p.P {
		if between(p.P[a], p.P[b], q) {
			return false
		}
	}
	return has(p.L, a, b) || enclosed(p.P, p.L, plus(p.P[a], p.P[b]))
}

// checkFirst wants exactly this flaw, and what follows of it for the other calls.
func checkFirst(t *testing.T, p api.Poly, want api.Flaw, wantE api.Errno) {
	t.Helper()
	kept := clone(p)
	if f, e := valid.First(p); f != want || e != wantE {
		t.Fatalf("First(%v) = %v, %d, want %v, %d", p, f, e, want, wantE)
	}
	loops, e := valid.Loops(p)
	if wrong := want.Kind != api.FlawNone || wantE != api.OK; wrong && (len(loops) > 0 || e != api.ErrArg) {
		t.Fatalf("Loops(%v) = %v, %d for what is not right", p, loops, e)
	} else if !wrong && (len(loops) == 0 || e != api.OK) {
		t.Fatalf("Loops(%v) = %v, %d for what is right", p, loops, e)
	}
	if !equal(p, kept) {
		t.Fatalf("%v was changed to %v", kept, p)
	}
}

// checkInside wants this answer for a and b in both orders.
func checkInside(t *testing.T, p api.Poly, a, b int, want bool) {
	t.Helper()
	for _, s := range segs(a, b, b, a) {
		if valid.Inside(p, s.A, s.B) != want {
			t.Fatalf("Inside(%v, %d, %d) = %v", p, s.A, s.B, !want)
		}
	}
}

// check holds First and Loops against what the chapter says.
func check(t *testing.T, p api.Poly) api.Flaw {
	t.Helper()
	want, e := wantFirst(p)
	checkFirst(t, p, want, e)
	loops, e := valid.Loops(p)
	wantL, wantE := wantLoops(p)
	if !slices.EqualFunc(loops, wantL, slices.Equal) || e != wantE {
		t.Fatalf("Loops(%v) = %v, %d, want %v, %d", p, loops, e, wantL, wantE)
	}
	return want
}

// checkAllInside holds Inside against what the chapter says, for all points and one beyond on each side.
func checkAllInside(t *testing.T, p api.Poly) {
	t.Helper()
	kept, ok := clone(p), isRight(p)
	for a := -1; a <= len(p.P); a++ {
		for b := a; b <= len(p.P); b++ {
			checkInside(t, p, a, b, ok && wantInside(p, a, b))
		}
	}
	if !equal(p, kept) {
		t.Fatalf("%v was changed to %v", kept, p)
	}
}

func TestExamples(t *testing.T) {
	p := square()
	diagonal := segs(0, 2)
	checkFirst(t, p, api.Flaw{}, api.OK)
	checkFirst(t, with(p, nil, nil, diagonal), api.Flaw{}, api.OK)
	checkFirst(t, with(p, nil, diagonal, nil), flaw(api.FlawRing, 0, 0), api.OK)
	checkFirst(t, with(p, nil, segs(3, 1), nil), flaw(api.FlawRing, 1, 0), api.OK)
	for i, s := range p.L {
		open := api.Poly{P: p.P, L: slices.Delete(slices.Clone(p.L), i, i+1)}
		checkFirst(t, open, flaw(api.FlawRing, min(s.A, s.B), 0), api.OK)
	}
}

func TestREADME(t *testing.T) {
	p := api.Poly{P: points(0, 0, 9, 0, 0, 9, 1, 1, 4, 3), L: segs(0, 1, 1, 2, 2, 0)}
	checkFirst(t, p, api.Flaw{}, api.OK)
	if loops, e := valid.Loops(p); e != api.OK || !slices.EqualFunc(loops, [][]int{{0, 1, 2}}, slices.Equal) {
		t.Error(loops, e)
	}
	checkInside(t, p, 0, 4, true)
	checkInside(t, p, 3, 4, true)
	p.I = segs(1, 3)
	checkFirst(t, p, api.Flaw{}, api.OK)
	checkInside(t, p, 0, 4, false)
	p.I = segs(1, 3, 4, 0)
	checkFirst(t, p, flaw(api.FlawMeet, 3, 4), api.OK)
}

// sample is an input, and its first flaw.
type sample struct {
	name string
	p    api.Poly
	want api.Flaw
}

func rightSamples() []sample {
	p := square()
	// A frame with a square in its hole.
	frame := api.Poly{P: points(0, 0, 9, 0, 9, 9, 0, 9, 1, 1, 8, 1, 8, 8, 1, 8, 2, 2, 7, 2, 7, 7, 2, 7), L: around(rising(0, 4), rising(4, 8), rising(8, 12))}
	return []sample{
		{"triangle", api.Poly{P: points(0, 0, 1, 0, 0, 1), L: around([]int{0, 2, 1})}, api.Flaw{}},
		{"square", p, api.Flaw{}},
		{"ends in any order", api.Poly{P: p.P, L: segs(1, 0, 3, 2, 1, 2, 3, 0)}, api.Flaw{}},
		{"both diagonals by the centre", with(p, points(2, 2), nil, segs(0, 4, 4, 1, 2, 4, 4, 3)), api.Flaw{}},
		{"a segment alone", with(p, points(1, 1, 2, 1), nil, segs(5, 4)), api.Flaw{}},
		{"a segment at a corner", with(p, points(1, 1), nil, segs(4, 0)), api.Flaw{}},
		{"a chain", with(p, points(1, 2, 2, 1, 3, 2), nil, segs(4, 5, 5, 6)), api.Flaw{}},
		{"a chain in a row", with(p, points(1, 1, 2, 1, 3, 1), nil, segs(4, 5, 5, 6)), api.Flaw{}},
		{"a closed chain inside", with(p, points(1, 1, 2, 1, 1, 2), nil, segs(4, 5, 5, 6, 6, 4)), api.Flaw{}},
		{"a star of segments", with(p, points(1, 1, 2, 1, 3, 1, 2, 3), nil, segs(4, 5, 5, 6, 7, 5)), api.Flaw{}},
		{"points inside", with(p, points(1, 1, 3, 2, 1, 3), nil, nil), api.Flaw{}},
		{"points on sides", api.Poly{P: points(0, 0, 2, 0, 4, 0, 4, 4, 0, 4), L: around(rising(0, 5))}, api.Flaw{}},
		{"frame", frame, api.Flaw{}},
		{"across the frame", with(frame, nil, nil, segs(0, 4, 5, 1, 8, 10)), api.Flaw{}},
		{"beside each other", with(p, points(5, 0, 9, 0, 9, 4), around([]int{4, 5, 6}), segs(0, 2)), api.Flaw{}},
		{"point numbers mixed", api.Poly{P: points(4, 4, 1, 1, 0, 0, 4, 0, 0, 4), L: segs(2, 3, 3, 0, 4, 0, 2, 4), I: segs(1, 0)}, api.Flaw{}},
	}
}

func firstKinds() []sample {
	p := square()
	return []sample{
		{"alike", with(p, points(4, 0), nil, nil), flaw(api.FlawAlike, 1, 4)},
		{"alike, of all the first one", with(p, points(1, 1, 2, 2, 2, 2, 1, 1, 0, 4, 2, 2), nil, nil), flaw(api.FlawAlike, 3, 8)},
		{"thrice", with(p, points(4, 4, 4, 4), nil, nil), flaw(api.FlawAlike, 2, 4)},
		{"alike ends", with(p, points(0, 0), nil, segs(0, 4)), flaw(api.FlawAlike, 0, 4)},
		{"alike alone", api.Poly{P: points(5, 5, 5, 5)}, flaw(api.FlawAlike, 0, 1)},
		{"point of I", with(p, nil, nil, segs(2, 2)), flaw(api.FlawPoint, 4, 0)},
		{"point of L", with(p, nil, segs(3, 3), nil), flaw(api.FlawPoint, 4, 0)},
		{"points of L and I", api.Poly{P: p.P, L: segs(0, 1, 1, 1, 1, 2), I: segs(0, 0, 0, 2)}, flaw(api.FlawPoint, 1, 0)},
		{"points of I", with(p, nil, nil, segs(0, 2, 1, 1, 0, 0)), flaw(api.FlawPoint, 5, 0)},
		{"point alone", api.Poly{P: points(7, 7), I: segs(0, 0)}, flaw(api.FlawPoint, 0, 0)},
		{"crossing", with(p, nil, nil, segs(0, 2, 1, 3)), flaw(api.FlawMeet, 4, 5)},
		{"crossing out", with(p, points(9, 1, 1, 1), nil, segs(0, 2, 4, 5)), flaw(api.FlawMeet, 1, 5)},
		{"the same twice", with(p, nil, nil, segs(0, 1)), flaw(api.FlawMeet, 0, 4)},
		{"the same to and fro", with(p, nil, nil, segs(1, 0)), flaw(api.FlawMeet, 0, 4)},
		{"twice in L", with(p, nil, segs(2, 1), nil), flaw(api.FlawMeet, 1, 4)},
		{"twice in I", with(p, nil, nil, segs(2, 0, 0, 2)), flaw(api.FlawMeet, 4, 5)},
		{"over each other", with(p, points(1, 0, 3, 0), nil, segs(4, 5)), flaw(api.FlawMeet, 0, 4)},
		{"over, from an end on", with(p, points(6, 0), nil, segs(0, 4)), flaw(api.FlawMeet, 0, 4)},
		{"an end inside another", with(p, points(4, 2), nil, segs(0, 4)), flaw(api.FlawMeet, 1, 4)},
		{"an end inside another of I", with(p, points(2, 2), nil, segs(0, 2, 4, 1)), flaw(api.FlawMeet, 4, 5)},
		{"many meet", with(p, points(2, 0, 2, 4, 0, 2, 4, 2), nil, segs(0, 2, 4, 5, 6, 7, 1, 3)), flaw(api.FlawMeet, 0, 5)},
		{"loops that cross", with(p, points(2, 2, 6, 2, 6, 6), around([]int{4, 5, 6}), nil), flaw(api.FlawMeet, 1, 4)},
		{"bow tie", api.Poly{P: p.P, L: around([]int{0, 1, 3, 2})}, flaw(api.FlawMeet, 1, 3)},
		{"inside a side", with(p, points(4, 1), nil, nil), flaw(api.FlawInside, 4, 1)},
		{"inside I", with(p, points(3, 3), nil, segs(2, 0)), flaw(api.FlawInside, 4, 4)},
		{"inside two", with(p, points(1, 1, 0, 2, 3, 0), nil, nil), flaw(api.FlawInside, 5, 3)},
		{"inside in turn", api.Poly{P: points(2, 0, 3, 0, 0, 0, 4, 0, 0, 4), L: segs(4, 2, 2, 3, 3, 4)}, flaw(api.FlawInside, 0, 1)},
	}
}

func lastKinds() []sample {
	p := square()
	return []sample{
		{"three ends", with(p, nil, segs(3, 1), nil), flaw(api.FlawRing, 1, 0)},
		{"one end", with(p, points(1, 1, 2, 1), segs(4, 5), nil), flaw(api.FlawRing, 4, 0)},
		{"four ends", with(p, points(1, 2, 2, 1), around([]int{4, 5, 0}), nil), flaw(api.FlawRing, 0, 0)},
		{"four ends in a later one", with(p, points(5, 4, 5, 5), around([]int{2, 4, 5}), nil), flaw(api.FlawRing, 2, 0)},
		{"no loop, but I", api.Poly{P: p.P, I: p.L}, flaw(api.FlawEmpty, 0, 0)},
		{"a loop closed by I", api.Poly{P: p.P, L: p.L[1:], I: p.L[:1]}, flaw(api.FlawRing, 0, 0)},
		{"a loop closed by I, another point", api.Poly{P: p.P, L: p.L[:2], I: p.L[2:]}, flaw(api.FlawRing, 0, 0)},
		{"nothing", api.Poly{}, flaw(api.FlawEmpty, 0, 0)},
		{"points alone", api.Poly{P: p.P}, flaw(api.FlawEmpty, 0, 0)},
		{"out", with(p, points(9, 9, 9, 8), nil, segs(4, 5)), flaw(api.FlawOut, 0, 0)},
		{"out from a corner", with(p, points(9, 0), nil, segs(2, 4)), flaw(api.FlawOut, 0, 0)},
		{"out, the second one", with(p, points(9, 9, 9, 8), nil, segs(0, 2, 4, 5, 2, 4)), flaw(api.FlawOut, 1, 0)},
		{"out along a side's line", with(p, points(9, 0), nil, segs(1, 4)), flaw(api.FlawOut, 0, 0)},
		{"out between corners", api.Poly{P: points(0, 0, 4, 0, 1, 1, 0, 4), L: around(rising(0, 4)), I: segs(0, 2, 1, 3)}, flaw(api.FlawOut, 1, 0)},
		{"in a hole", with(p, points(1, 1, 3, 1, 3, 3, 1, 3), around(rising(4, 8)), segs(0, 4, 5, 7)), flaw(api.FlawOut, 1, 0)},
		{"between two loops", with(p, points(5, 0, 9, 0, 9, 4), around([]int{4, 5, 6}), segs(1, 4)), flaw(api.FlawOut, 0, 0)},
		{"stray", with(p, points(9, 0), nil, nil), flaw(api.FlawStray, 4, 0)},
		{"stray, the second one", with(p, points(1, 1, 9, 0, -1, 0), nil, segs(0, 2)[:0]), flaw(api.FlawStray, 5, 0)},
		{"stray in a hole", with(p, points(1, 1, 3, 1, 3, 3, 1, 3, 2, 2), around(rising(4, 8)), nil), flaw(api.FlawStray, 8, 0)},
		{"stray first", api.Poly{P: points(-1, 4, 0, 0, 4, 0, 4, 4, 0, 4), L: around(rising(1, 5))}, flaw(api.FlawStray, 0, 0)},
		{"stray at a corner's height", with(p, points(-2, 4), nil, nil), flaw(api.FlawStray, 4, 0)},
	}
}

func samples() []sample {
	return slices.Concat(rightSamples(), firstKinds(), lastKinds())
}

func TestSamples(t *testing.T) {
	kinds := map[int]int{}
	for _, x := range samples() {
		if f, e := valid.First(x.p); f != x.want || e != api.OK {
			t.Errorf("%s: %v, %d, want %v", x.name, f, e, x.want)
		}
		check(t, x.p)
		checkAllInside(t, x.p)
		kinds[x.want.Kind]++
	}
	for kind := api.FlawNone; kind <= api.FlawStray; kind++ {
		if kinds[kind] < 3 {
			t.Errorf("there are %d samples of the flaw %d", kinds[kind], kind)
		}
	}
}

// An input with all flaws, of which the first one is mended again and again: each comes in its turn.
func TestFlawsInTurn(t *testing.T) {
	p := api.Poly{
		P: points(0, 0, 8, 0, 8, 8, 0, 8, 20, 0, 24, 0, 24, 4, 4, 0, 30, 30, 31, 30, 40, 40, 8, 8),
		L: segs(0, 1, 1, 2, 2, 3, 3, 0, 4, 5, 5, 6, 0, 0),
		I: segs(9, 9, 0, 2, 1, 3, 8, 9),
	}
	mends := []struct {
		want api.Flaw
		mend func()
	}{
		{flaw(api.FlawAlike, 2, 11), func() { p.P = p.P[:11] }},
		{flaw(api.FlawPoint, 6, 0), func() { p.L = p.L[:6] }},
		{flaw(api.FlawPoint, 6, 0), func() { p.I = p.I[1:] }},
		{flaw(api.FlawMeet, 6, 7), func() { p.I = append(p.I[:1:1], p.I[2:]...) }},
		{flaw(api.FlawInside, 7, 0), func() { p.P[7] = at(4, 1) }},
		{flaw(api.FlawRing, 4, 0), func() { p.L = append(p.L, seg(6, 4)) }},
		{flaw(api.FlawOut, 1, 0), func() { p.I = p.I[:1] }},
		{flaw(api.FlawStray, 8, 0), func() { p.P[8] = at(1, 3) }},
		{flaw(api.FlawStray, 9, 0), func() { p.P = append(p.P[:9:9], at(23, 1)) }},
		{api.Flaw{}, func() { p.L, p.I = nil, nil }},
		{flaw(api.FlawEmpty, 0, 0), func() {}},
	}
	for _, x := range mends {
		if f := check(t, p); f != x.want {
			t.Fatalf("%v has the flaw %v, want %v", p, f, x.want)
		}
		x.mend()
	}
	// Without a loop, what should be inside is told after that.
	checkFirst(t, api.Poly{P: points(0, 0, 4, 0), I: segs(0, 1)}, flaw(api.FlawEmpty, 0, 0), api.OK)
	checkFirst(t, api.Poly{P: points(0, 0, 4, 0), L: segs(0, 1)}, flaw(api.FlawRing, 0, 0), api.OK)
	checkFirst(t, api.Poly{P: points(9, 9, 0, 0, 4, 0), L: segs(2, 1), I: segs(0, 1)}, flaw(api.FlawRing, 1, 0), api.OK)
}

// What input.Check refuses is ErrArg, whatever else is wrong with it.
func TestWrongInputs(t *testing.T) {
	for _, x := range samples() {
		n := len(x.p.P)
		for _, q := range points(place+1, 0, 0, place+1, -place-1, 0, 0, -place-1, math.MaxInt, 0, 0, math.MinInt, 1<<32, 1<<33, math.MinInt, math.MaxInt) {
			checkFirst(t, with(x.p, []api.Point{q}, nil, nil), api.Flaw{}, api.ErrArg)
			checkFirst(t, with(x.p, []api.Point{q, q}, segs(n, n, n, n+1), segs(0, n)), api.Flaw{}, api.ErrArg)
		}
		for _, s := range segs(0, n, n, 0, -1, 0, 0, -1, n, n, -1, -1, math.MinInt, 0, 0, math.MaxInt, math.MaxInt, math.MinInt, 1<<32, 0, 0, -1<<63) {
			checkFirst(t, with(x.p, nil, []api.Seg{s}, nil), api.Flaw{}, api.ErrArg)
			checkFirst(t, with(x.p, nil, nil, []api.Seg{s}), api.Flaw{}, api.ErrArg)
			checkFirst(t, api.Poly{P: x.p.P, L: append([]api.Seg{s}, x.p.L...)}, api.Flaw{}, api.ErrArg)
			checkInside(t, with(x.p, nil, nil, []api.Seg{s}), 0, 1, false)
		}
	}
	checkFirst(t, api.Poly{L: segs(0, 0)}, api.Flaw{}, api.ErrArg)
	checkFirst(t, api.Poly{I: segs(0, 1)}, api.Flaw{}, api.ErrArg)
}

// manyPoints are different ones, within a square from the origin to (99, 99), n of them.
func manyPoints(n int) []api.Point {
	var p []api.Point
	for i := range n {
		p = append(p, at(1+i%97, 1+i/97))
	}
	return p
}

func TestLimits(t *testing.T) {
	p := api.Poly{P: points(0, 0, 99, 0, 99, 99, 0, 99), L: around(rising(0, 4))}
	for _, n := range []int{api.MaxPoints - 1, api.MaxPoints} {
		checkFirst(t, with(p, manyPoints(n-4), nil, nil), api.Flaw{}, api.OK)
		check(t, with(p, manyPoints(n-4), nil, nil))
	}
	checkFirst(t, with(p, manyPoints(api.MaxPoints-3), nil, nil), api.Flaw{}, api.ErrArg)
	checkFirst(t, with(p, make([]api.Point, 1<<20), nil, nil), api.Flaw{}, api.ErrArg)
	most, more := make([]api.Seg, api.MaxSegs), make([]api.Seg, api.MaxSegs+1)
	checkFirst(t, api.Poly{P: p.P, L: most, I: most}, flaw(api.FlawPoint, 0, 0), api.OK)
	checkFirst(t, api.Poly{P: p.P, L: more}, api.Flaw{}, api.ErrArg)
	checkFirst(t, api.Poly{P: p.P, L: p.L, I: more}, api.Flaw{}, api.ErrArg)
	checkFirst(t, api.Poly{P: p.P, L: p.L, I: make([]api.Seg, 1<<20)}, api.Flaw{}, api.ErrArg)
	// All on one side, the last of all segments being wrong.
	checkFirst(t, api.Poly{P: p.P, L: slices.Repeat(segs(0, 1), 400), I: slices.Repeat(segs(0, 1), 400)}, flaw(api.FlawMeet, 0, 1), api.OK)
	checkFirst(t, api.Poly{P: p.P, L: slices.Repeat(segs(0, 1), 400), I: append(slices.Repeat(segs(0, 1), 399), seg(1, 1))}, flaw(api.FlawPoint, 799, 0), api.OK)
}

// The whole grid of inputs, and places at its rims.
func TestMostPlaces(t *testing.T) {
	const m = place
	p := api.Poly{P: points(-m, -m, m, -m, m, m, -m, m), L: around(rising(0, 4))}
	for _, x := range []sample{
		{"whole", p, api.Flaw{}},
		{"diagonal", with(p, nil, nil, segs(0, 2)), api.Flaw{}},
		{"crossing", with(p, nil, nil, segs(0, 2, 3, 1)), flaw(api.FlawMeet, 4, 5)},
		{"near the diagonal", with(p, points(m-1, m-2, 1, 0, 0, 1, 1-m, 2-m), nil, segs(2, 0)), api.Flaw{}},
		{"on the diagonal", with(p, points(m-1, m-2, 1, 0, 0, 1, 1-m, 1-m), nil, segs(2, 0)), flaw(api.FlawInside, 7, 4)},
		{"beside the rims", with(p, points(m-1, 0, 1-m, 0, 0, m-1, 0, 1-m), nil, nil), api.Flaw{}},
		{"on a rim", with(p, points(m-1, 0, 1-m, 0, 0, m-1, 0, -m), nil, nil), flaw(api.FlawInside, 7, 0)},
		{"thin", api.Poly{P: points(-m, -m, m, m, m, m-1, -1, 0, 0, -1), L: around(rising(0, 3))}, flaw(api.FlawStray, 3, 0)},
		{"thin, with a point just inside", api.Poly{P: points(-m, -m, m, m, m, m-2, 1, 0), L: around(rising(0, 3))}, api.Flaw{}},
		{"thin, with one on its side", api.Poly{P: points(-m, -m, m, m, m, m-2, 0, -1), L: around(rising(0, 3))}, flaw(api.FlawInside, 3, 2)},
		{"thin, with one just outside", api.Poly{P: points(-m, -m, m, m, m, m-2, 2, 0), L: around(rising(0, 3))}, flaw(api.FlawStray, 3, 0)},
		{"thin, with a point of the grid inside", api.Poly{P: points(-m, -m, m, m, m, m-3, m-1, m-2), L: around(rising(0, 3))}, api.Flaw{}},
	} {
		if f := check(t, x.p); f != x.want {
			t.Errorf("%s: %v, want %v", x.name, f, x.want)
		}
		checkAllInside(t, x.p)
	}
}

// allChoices calls f with p, and each two points of it joined by no segment, one of L or one of I.
func allChoices(p []api.Point, f func(api.Poly)) {
	var pairs []api.Seg
	for a := range p {
		for b := range a {
			pairs = append(pairs, seg(a, b))
		}
	}
	var grow func(x api.Poly, left []api.Seg)
	grow = func(x api.Poly, left []api.Seg) {
		if len(left) == 0 {
			f(x)
			return
		}
		grow(x, left[1:])
		grow(with(x, nil, left[:1], nil), left[1:])
		grow(with(x, nil, nil, left[:1]), left[1:])
	}
	grow(api.Poly{P: p}, pairs)
}

// All choices of segments between few points: in a square, with its centre; with one beyond; in a row; alike.
func TestAllChoices(t *testing.T) {
	for _, x := range []struct {
		p     []api.Point
		right int // so many choices; -1 if that was not counted by hand
	}{
		{points(0, 0, 4, 0, 0, 4), 1},
		// The square, with one diagonal or none.
		{points(0, 0, 4, 0, 4, 4, 0, 4), 3},
		// The triangle, with a point joined to some corners or none; a quadrilateral, with its diagonal or none.
		{points(0, 0, 4, 0, 0, 4, 1, 1), 8 + 3*2},
		{points(0, 0, 2, 0, 4, 0, 0, 4), 2},
		{points(0, 0, 1, 0, 2, 0), 0},
		{points(0, 0, 2, 0, 0, 0, 0, 2), 0},
		// The square, with its centre joined to some corners or none; a loop through the centre, with two diagonals or fewer.
		{points(0, 0, 4, 0, 4, 4, 0, 4, 2, 2), 16 + 4*4},
		{points(0, 0, 6, 0, 5, 4, 1, 5, 2, 2), -1},
		{points(2, 0, 4, 4, 1, 1, 0, 4, 4, 0), -1},
	} {
		kinds := map[int]int{}
		allChoices(x.p, func(p api.Poly) {
			f := check(t, p)
			if len(x.p) < 5 || f.Kind == api.FlawNone {
				checkAllInside(t, p)
			}
			kinds[f.Kind]++
		})
		if x.right >= 0 && kinds[api.FlawNone] != x.right {
			t.Errorf("of the choices between %v, there were %v", x.p, kinds)
		}
	}
}

// All triangles and quadrilaterals in a small grid, and all triangles with one more point.
func TestAllLoops(t *testing.T) {
	const n = 4
	cell := func(i int) api.Point { return at(i%n, i/n%n) }
	for i := range n * n * n * n * n * n * n * n {
		p := []api.Point{cell(i), cell(i / 16), cell(i / 256), cell(i / 4096)}
		check(t, api.Poly{P: p, L: around(rising(0, 4))})
		check(t, api.Poly{P: p, L: around(rising(0, 3))})
		check(t, api.Poly{P: p[:3], L: around(rising(0, 3))})
	}
}

// drawnPoly is of few points of a small grid, with segments of a loop or two, some left out and some added.
func drawnPoly(r *rand.Rand) api.Poly {
	var p api.Poly
	width := 2 + r.IntN(8)
	for range 3 + r.IntN(7) {
		q := at(r.IntN(width), r.IntN(width))
		if r.IntN(20) > 0 && slices.Contains(p.P, q) {
			continue
		}
		p.P = append(p.P, q)
	}
	order := r.Perm(len(p.P))
	cut := min(3+r.IntN(4), len(order))
	rings := [][]int{order[:cut]}
	if len(order) >= cut+3 && r.IntN(2) == 0 {
		rings = append(rings, order[cut:cut+3])
	}
	p.L = around(rings...)
	one := func() api.Seg { return seg(r.IntN(len(p.P)), r.IntN(len(p.P))) }
	for range max(0, r.IntN(6)-2) {
		p.I = append(p.I, one())
	}
	if r.IntN(8) == 0 {
		p.L = append(p.L, one())
	}
	if r.IntN(8) == 0 {
		p.L = p.L[:r.IntN(len(p.L)+1)]
	}
	return shuffled(r, p)
}

// shuffled has the same segments in another order, some of them the other way round.
func shuffled(r *rand.Rand, p api.Poly) api.Poly {
	p = clone(p)
	for _, l := range [][]api.Seg{p.L, p.I} {
		r.Shuffle(len(l), func(i, k int) { l[i], l[k] = l[k], l[i] })
		for i := range l {
			if r.IntN(2) == 0 {
				l[i] = seg(l[i].B, l[i].A)
			}
		}
	}
	return p
}

// renumbered has the same points under other numbers, with the names that they have now.
func renumbered(r *rand.Rand, p api.Poly) (api.Poly, []int) {
	names := r.Perm(len(p.P))
	q := clone(p)
	for i, name := range names {
		q.P[name] = p.P[i]
	}
	for _, l := range [][]api.Seg{q.L, q.I} {
		for i, s := range l {
			l[i] = seg(names[s.A], names[s.B])
		}
	}
	return q, names
}

func TestDrawn(t *testing.T) {
	r := rand.New(rand.NewPCG(10, 1))
	kinds := map[int]int{}
	for range 60000 {
		p := drawnPoly(r)
		f := check(t, p)
		kinds[f.Kind]++
		if f.Kind == api.FlawNone || r.IntN(100) == 0 {
			checkAllInside(t, p)
		}
	}
	for kind := api.FlawNone; kind <= api.FlawStray; kind++ {
		if kinds[kind] < 100 {
			t.Errorf("of 60000 draws there were %v", kinds)
		}
	}
}

// Renumbering, another order and direction of the segments, and a translation change neither whether an input is right nor of what kind its flaw is; nor do quarter turns and mirrors.
func TestElsewhere(t *testing.T) {
	r := rand.New(rand.NewPCG(10, 2))
	for range 6000 {
		p := drawnPoly(r)
		want, e := valid.First(p)
		if e != api.OK {
			t.Fatal(p, e)
		}
		by := at(r.IntN(2*place-20)-place+10, r.IntN(2*place-20)-place+10)
		for _, move := range []func(api.Point) api.Point{
			func(q api.Point) api.Point { return plus(q, by) },
			func(q api.Point) api.Point { return minus(q, at(place, place)) },
			func(q api.Point) api.Point { return plus(q, at(place-10, -place)) },
			turned,
			func(q api.Point) api.Point { return turned(turned(q)) },
			func(q api.Point) api.Point { return at(-q.X, q.Y) },
		} {
			checkFirst(t, api.Poly{P: each(p.P, move), L: p.L, I: p.I}, want, api.OK)
		}
		other, names := renumbered(r, p)
		for _, q := range []api.Poly{other, shuffled(r, p), shuffled(r, other)} {
			if f, e := valid.First(q); f.Kind != want.Kind || e != api.OK {
				t.Fatalf("%v has the flaw %v, but %v has %v, %d", p, want, q, f, e)
			}
		}
		a, b := r.IntN(len(p.P)), r.IntN(len(p.P))
		checkInside(t, shuffled(r, other), names[a], names[b], valid.Inside(p, a, b))
	}
}

// cells are some of the cells of a board, of which no two touch at a corner alone.
type cells struct {
	size int
	in   []bool
}

func drawnCells(r *rand.Rand, size int) cells {
	c := cells{size: size, in: make([]bool, size*size)}
	for i := range c.in {
		c.in[i] = r.IntN(3) > 0
	}
	c.in[r.IntN(len(c.in))] = true
	for again := true; again; {
		again = false
		for y := 1; y < size; y++ {
			for x := 1; x < size; x++ {
				if c.has(x, y) == c.has(x-1, y-1) && c.has(x-1, y) == c.has(x, y-1) && c.has(x, y) != c.has(x-1, y) {
					c.in[y*size+x], c.in[y*size+x-1], again = true, true, true
				}
			}
		}
	}
	return c
}

func (c cells) has(x, y int) bool {
	return x >= 0 && y >= 0 && x < c.size && y < c.size && c.in[y*c.size+x]
}

// beside tells how many of the four cells at a corner are in it.
func (c cells) beside(x, y int) int {
	n := 0
	for _, in := range []bool{c.has(x, y), c.has(x-1, y), c.has(x, y-1), c.has(x-1, y-1)} {
		if in {
			n++
		}
	}
	return n
}

// poly has the rims of the cells as loops; their inner edges, and a diagonal of each cell, are the segments that may be inside.
func (c cells) poly() (api.Poly, []api.Seg) {
	var p api.Poly
	var inner []api.Seg
	number := map[api.Point]int{}
	for y := 0; y <= c.size; y++ {
		for x := 0; x <= c.size; x++ {
			if c.beside(x, y) > 0 {
				number[at(x, y)] = len(p.P)
				p.P = append(p.P, at(2*x, 2*y))
			}
		}
	}
	for y := 0; y <= c.size; y++ {
		for x := 0; x <= c.size; x++ {
			here := number[at(x, y)]
			for _, side := range []struct {
				to   api.Point
				a, b bool
			}{{at(x+1, y), c.has(x, y), c.has(x, y-1)}, {at(x, y+1), c.has(x, y), c.has(x-1, y)}} {
				switch {
				case side.a != side.b:
					p.L = append(p.L, seg(here, number[side.to]))
				case side.a:
					inner = append(inner, seg(here, number[side.to]))
				}
			}
			if c.has(x, y) {
				inner = append(inner, seg(here, number[at(x+1, y+1)]))
			}
		}
	}
	return p, inner
}

// checkCover wants the loops to have each point of L once, and to go along just the segments of L.
func checkCover(t *testing.T, p api.Poly) {
	t.Helper()
	loops, e := valid.Loops(p)
	seen := map[int]int{}
	along := around(loops...)
	for _, s := range along {
		seen[s.A]++
		if !has(p.L, s.A, s.B) || seen[s.A] > 1 {
			t.Fatalf("Loops(%v) = %v", p, loops)
		}
	}
	if e != api.OK || len(along) != len(p.L) {
		t.Fatalf("Loops(%v) = %v, %d", p, loops, e)
	}
	want, _, _ := rings.Rings(len(p.P), p.L)
	if !slices.EqualFunc(loops, want, slices.Equal) {
		t.Fatalf("Loops(%v) = %v, but rings has %v", p, loops, want)
	}
}

// Boards are right, with whatever of their inner edges and diagonals; and with one fault, they have that flaw.
func TestBoards(t *testing.T) {
	r := rand.New(rand.NewPCG(10, 3))
	for range 1000 {
		c := drawnCells(r, 1+r.IntN(6))
		p, inner := c.poly()
		for _, s := range inner {
			if r.IntN(2) == 0 {
				p.I = append(p.I, s)
			}
		}
		p, _ = renumbered(r, shuffled(r, p))
		checkFirst(t, p, api.Flaw{}, api.OK)
		checkCover(t, p)
		checkFaults(t, r, p)
		checkFaultsOutside(t, p)
	}
}

// checkFaults lays one fault after the other into a board.
func checkFaults(t *testing.T, r *rand.Rand, p api.Poly) {
	t.Helper()
	l := slices.Concat(p.L, p.I)
	n, a, k := len(p.P), r.IntN(len(p.P)), r.IntN(len(l))
	s := l[k]
	low, middle := min(s.A, s.B), at((p.P[s.A].X+p.P[s.B].X)/2, (p.P[s.A].Y+p.P[s.B].Y)/2)
	checkFirst(t, with(p, []api.Point{p.P[a]}, nil, nil), flaw(api.FlawAlike, a, n), api.OK)
	checkFirst(t, with(p, nil, nil, segs(a, a)), flaw(api.FlawPoint, len(l), 0), api.OK)
	checkFirst(t, with(p, nil, segs(a, a), nil), flaw(api.FlawPoint, len(p.L), 0), api.OK)
	checkFirst(t, with(p, nil, nil, segs(s.B, s.A)), flaw(api.FlawMeet, k, len(l)), api.OK)
	checkFirst(t, with(p, []api.Point{middle}, nil, nil), flaw(api.FlawInside, n, k), api.OK)
	if k < len(p.L) {
		checkFirst(t, api.Poly{P: p.P, L: slices.Delete(slices.Clone(p.L), k, k+1), I: p.I}, flaw(api.FlawRing, low, 0), api.OK)
		checkFirst(t, api.Poly{P: p.P, L: slices.Delete(slices.Clone(p.L), k, k+1), I: append(slices.Clone(p.I), s)}, flaw(api.FlawRing, low, 0), api.OK)
	} else {
		i := k - len(p.L)
		checkFirst(t, api.Poly{P: p.P, L: append(slices.Clone(p.L), s), I: slices.Delete(slices.Clone(p.I), i, i+1)}, flaw(api.FlawRing, low, 0), api.OK)
	}
	checkFirst(t, api.Poly{P: p.P, I: l}, flaw(api.FlawEmpty, 0, 0), api.OK)
}

// checkFaultsOutside lays a point beyond a board, a segment there, and one from a corner of the board to it.
func checkFaultsOutside(t *testing.T, p api.Poly) {
	t.Helper()
	n := len(p.P)
	far := points(-3, -2, -1, -3)
	checkFirst(t, with(p, far[:1], nil, nil), flaw(api.FlawStray, n, 0), api.OK)
	checkFirst(t, with(p, far, nil, segs(n, n+1)), flaw(api.FlawOut, len(p.I), 0), api.OK)
	least := 0
	for i, q := range p.P {
		if q.Y < p.P[least].Y || q.Y == p.P[least].Y && q.X < p.P[least].X {
			least = i
		}
	}
	checkFirst(t, with(p, far[1:], nil, segs(least, n)), flaw(api.FlawOut, len(p.I), 0), api.OK)
}

// A board as great as an input may be: as many segments of I as there may be, beside those of a loop.
func TestGreatestBoard(t *testing.T) {
	c := cells{size: 13, in: slices.Repeat([]bool{true}, 13*13)}
	p, inner := c.poly()
	p.I = inner[:api.MaxSegs]
	if len(p.P) != 196 || input.Check(p) != api.OK {
		t.Fatal(len(p.P), len(p.L), len(p.I))
	}
	check(t, p)
	checkCover(t, p)
	// What is left of the inner edges may be laid, and nothing that crosses those that are.
	for _, s := range inner[api.MaxSegs:] {
		checkInside(t, p, s.A, s.B, true)
	}
	checkInside(t, p, 1, 14, false)
	checkInside(t, p, 0, 15, true)
	checkInside(t, p, 0, 30, false)
	checkFirst(t, api.Poly{P: p.P, L: p.L, I: inner[:api.MaxSegs+1]}, api.Flaw{}, api.ErrArg)
	last := with(p, nil, nil, nil)
	last.I[api.MaxSegs-1] = seg(1, 14)
	checkFirst(t, last, flaw(api.FlawMeet, slices.Index(slices.Concat(p.L, p.I), seg(0, 15)), len(p.L)+api.MaxSegs-1), api.OK)
}

// drawnLoop is one simple loop over a wide place: points by their X, first those on one side of the line from the first to the last one, then back those on the other side.
func drawnLoop(r *rand.Rand, n, size int) api.Poly {
	xs := map[int]struct{}{}
	var p []api.Point
	for range n {
		q := at(r.IntN(2*size+1)-size, r.IntN(2*size+1)-size)
		if _, taken := xs[q.X]; !taken {
			xs[q.X] = struct{}{}
			p = append(p, q)
		}
	}
	slices.SortFunc(p, func(a, b api.Point) int { return a.X - b.X })
	var low, high []api.Point
	first, last := p[0], p[len(p)-1]
	for _, q := range p[1 : len(p)-1] {
		if side := cross(minus(last, first), minus(q, first)); side < 0 {
			low = append(low, q)
		} else if side > 0 {
			high = append([]api.Point{q}, high...)
		}
	}
	all := slices.Concat([]api.Point{first}, low, []api.Point{last}, high)
	return api.Poly{P: all, L: around(rising(0, len(all)))}
}

// Loops of all sizes; Inside tells just which segments may be laid into them, so that they stay right.
func TestSegmentsLaid(t *testing.T) {
	r := rand.New(rand.NewPCG(10, 4))
	found := map[bool]int{}
	for range 400 {
		p := drawnLoop(r, 4+r.IntN(8), 4<<r.IntN(19))
		if len(p.P) < 3 {
			continue
		}
		p, _ = renumbered(r, p)
		if f := check(t, p); f != (api.Flaw{}) {
			t.Fatal(p, f)
		}
		checkAllInside(t, p)
		for a := range p.P {
			for b := range p.P {
				if a == b || has(p.L, a, b) {
					continue
				}
				may := valid.Inside(p, a, b)
				f, _ := valid.First(with(p, nil, nil, segs(a, b)))
				if may != (f.Kind == api.FlawNone) {
					t.Fatalf("Inside(%v, %d, %d) = %v, but with it there is the flaw %v", p, a, b, may, f)
				}
				found[may]++
			}
		}
		filled(t, r, p, 1)
	}
	if found[true] < 1000 || found[false] < 1000 {
		t.Error(found)
	}
}

// filled lays segments until no more may be: then there are as many edges as triangles need, by Euler's count, whichever came first. Each hole takes one from parts.
func filled(t *testing.T, r *rand.Rand, p api.Poly, parts int) {
	t.Helper()
	n := len(p.P)
	for _, i := range r.Perm(n * n) {
		a, b := i/n, i%n
		if valid.Inside(p, a, b) && !has(p.L, a, b) && !has(p.I, a, b) {
			p.I = append(p.I, seg(a, b))
		}
	}
	if f, e := valid.First(p); f != (api.Flaw{}) || e != api.OK {
		t.Fatal(p, f, e)
	}
	if got, want := len(p.L)+len(p.I), 3*n-len(p.L)-3*parts; got != want {
		t.Fatalf("%v has %d edges, want %d", p, got, want)
	}
}

func TestFilled(t *testing.T) {
	r := rand.New(rand.NewPCG(10, 5))
	p := square()
	hole := with(p, points(1, 1, 3, 1, 2, 3), around(rising(4, 7)), nil)
	for range 20 {
		filled(t, r, p, 1)
		filled(t, r, with(p, points(1, 2, 2, 2, 3, 1), nil, segs(5, 0)), 1)
		filled(t, r, hole, 0)
		filled(t, r, with(hole, points(9, 9, 8, 9, 9, 8), around(rising(7, 10)), nil), 1)
		filled(t, r, with(p, points(5, 0, 9, 0, 9, 4, 8, 1), around([]int{4, 5, 6}), nil), 2)
	}
}

func TestInside(t *testing.T) {
	// A comb of two teeth; 8 and 9 are inside it, joined.
	p := api.Poly{P: points(0, 0, 8, 0, 8, 6, 6, 6, 4, 2, 2, 6, 0, 6, 4, 0, 3, 1, 5, 1), L: around([]int{0, 7, 1, 2, 3, 4, 5, 6}), I: segs(8, 9)}
	if f := check(t, p); f != (api.Flaw{}) {
		t.Fatal(f)
	}
	for _, x := range []struct {
		a, b int
		want bool
	}{
		// Of L, and of I.
		{0, 7, true}, {7, 1, true}, {3, 4, true}, {8, 9, true},
		// Along L, past a point; out of it; over a notch; across I.
		{0, 1, false}, {3, 5, false}, {2, 6, false}, {2, 5, false}, {4, 7, false},
		// Inside: at ends of others, to points within, through a notch's corner or past it.
		{0, 4, true}, {1, 4, true}, {0, 5, true}, {2, 4, true}, {8, 4, true}, {0, 8, true}, {7, 8, true}, {7, 9, true}, {0, 9, true}, {1, 8, true}, {6, 8, true}, {5, 8, true}, {5, 9, false}, {3, 8, false}, {0, 2, false}, {2, 7, false}, {2, 9, true}, {6, 7, false},
		// No points.
		{0, 0, false}, {8, 8, false}, {-1, 0, false}, {0, 10, false}, {-1, -1, false}, {10, 10, false}, {-1, 10, false}, {math.MinInt, 0, false}, {0, math.MaxInt, false}, {math.MinInt, math.MaxInt, false}, {1 << 32, 0, false}, {math.MaxInt, math.MaxInt, false},
	} {
		checkInside(t, p, x.a, x.b, x.want)
	}
	checkAllInside(t, p)
	// In what is not right, nothing may be laid, not even what is there.
	wrong := with(p, points(20, 20), nil, nil)
	checkInside(t, wrong, 0, 7, false)
	checkInside(t, wrong, 0, 4, false)
	for _, x := range slices.Concat(firstKinds(), lastKinds()) {
		checkAllInside(t, x.p)
	}
	checkInside(t, api.Poly{}, 0, 0, false)
	checkInside(t, api.Poly{}, 0, 1, false)
	checkInside(t, api.Poly{}, -1, 0, false)
}

// fill makes all elements x, the ones behind the end too.
func fill[T any](l []T, x T) {
	l = l[:cap(l)]
	for i := range l {
		l[i] = x
	}
}

// R2: results are the caller's own; what is behind the end of an argument is neither read nor written.
func TestResultsAreNewMemory(t *testing.T) {
	// L and I are pieces of one list, with others behind them.
	all := segs(0, 1, 1, 2, 2, 3, 3, 0, 4, 5, 5, 6, 6, 4, 9, 9, 0, 2, -1, 99)
	p := api.Poly{P: append(square().P, points(9, 0, 12, 0, 9, 3, 0, 0, place+1, 0)...)[:7], L: all[:7], I: all[8:9]}
	kept, keptP := slices.Clone(all), slices.Clone(p.P[:9])
	want := [][]int{{0, 1, 2, 3}, {4, 5, 6}}
	for range 2 {
		checkFirst(t, p, api.Flaw{}, api.OK)
		checkInside(t, p, 0, 2, true)
		checkInside(t, p, 1, 3, false)
		first, _ := valid.Loops(p)
		second, _ := valid.Loops(p)
		for i, ring := range first {
			fill(ring, 70+i)
			for k, other := range first {
				if k != i && slices.Contains(other, 70+i) {
					t.Errorf("the loop %d became %v as another one was changed", k, other)
				}
			}
		}
		fill(first, nil)
		if !slices.EqualFunc(second, want, slices.Equal) {
			t.Errorf("one result became %v as the other one was changed", second)
		}
	}
	if !slices.Equal(all, kept) || !slices.Equal(p.P[:9], keptP) {
		t.Errorf("arguments became %v, %v", p.P[:9], all)
	}
}

// R4: what was asked ahead changes no answer.
func TestSameAgain(t *testing.T) {
	list := samples()
	for _, x := range list {
		for _, y := range list {
			for _, s := range []sample{x, y, x} {
				checkFirst(t, s.p, s.want, api.OK)
				valid.Inside(s.p, 0, 1)
				checkFirst(t, with(s.p, nil, segs(-1, 0), nil), api.Flaw{}, api.ErrArg)
			}
		}
	}
}

// R6: nil is as empty as others are.
func TestNilAndEmpty(t *testing.T) {
	for _, p := range [][]api.Point{nil, {}, points(0, 0)[:0]} {
		for _, none := range [][]api.Seg{nil, {}, segs(0, 1)[:0]} {
			checkFirst(t, api.Poly{P: p, L: none, I: none}, flaw(api.FlawEmpty, 0, 0), api.OK)
			checkFirst(t, api.Poly{P: square().P, L: none, I: none}, flaw(api.FlawEmpty, 0, 0), api.OK)
			checkFirst(t, api.Poly{P: square().P, L: square().L, I: none}, api.Flaw{}, api.OK)
			checkFirst(t, api.Poly{P: p, L: none, I: segs(0, 0)}, api.Flaw{}, api.ErrArg)
		}
	}
}

// grown reads an input from bytes: points in small steps at a place, then segments of L and of I by turns of eight.
func grown(b []byte, x, y int) api.Poly {
	var p api.Poly
	for len(b) > 0 && b[0] < 128 {
		p.P = append(p.P, at(x+int(b[0]%11)-5, y+int(b[0]/11)-5))
		b = b[1:]
	}
	for i := 0; i+1 < len(b); i += 2 {
		s := seg(int(b[i])-129, int(b[i+1])-129)
		if i/16%2 == 0 {
			p.L = append(p.L, s)
		} else {
			p.I = append(p.I, s)
		}
	}
	return p
}

func FuzzPoly(f *testing.F) {
	f.Add([]byte{0, 4, 48, 44, 129, 130, 130, 131, 131, 132, 132, 129}, 0, 0)
	f.Add([]byte{0, 10, 120, 110, 24, 26, 48, 129, 130, 130, 131, 131, 132, 132, 129, 133, 134, 134, 135, 135, 133, 129, 131, 129, 133}, place-5, 5-place)
	f.Add([]byte{0, 10, 120, 129, 130, 128, 140}, 1<<32, -1<<32)
	f.Fuzz(func(t *testing.T, b []byte, x, y int) {
		p := grown(b[:min(len(b), 80)], x, y)
		check(t, p)
		if len(p.P) < 12 {
			checkAllInside(t, p)
		}
	})
}
