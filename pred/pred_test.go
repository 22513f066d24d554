package pred_test

import (
	"math"
	"math/big"
	"math/rand/v2"
	"slices"
	"testing"

	"parquet/api"
	"parquet/pred"
)

// The calls that the chapter lists, with their exact signatures: a change of one does not compile.
var (
	_ func(api.Point, api.Point, api.Point) int                    = pred.Orient
	_ func(api.Point, api.Point, api.Point, api.Point) int         = pred.InCircle
	_ func(api.Point, api.Point, api.Point) bool                   = pred.InDisc
	_ func(...api.Point) bool                                      = pred.Convex
	_ func(api.Point, api.Point, api.Point) bool                   = pred.Skinny
	_ func(api.Point, api.Point) (api.Point, bool)                 = pred.Middle
	_ func(api.Point, api.Point, api.Point) (api.Point, api.Errno) = pred.Centre
	_ func(...api.Point) bool                                      = pred.Fits
)

const bound = api.Bound

func at(x, y int) api.Point {
	return api.Point{X: x, Y: y}
}

func plus(p, q api.Point) api.Point {
	return at(p.X+q.X, p.Y+q.Y)
}

// turned is p, a quarter turn to the left about the origin.
func turned(p api.Point) api.Point {
	return at(-p.Y, p.X)
}

func each(l []api.Point, f func(api.Point) api.Point) []api.Point {
	var out []api.Point
	for _, p := range l {
		out = append(out, f(p))
	}
	return out
}

// orders calls f with all orders of 0 to n-1, and 1 if an even number of exchanges leads there, or -1.
func orders(n int, f func(order []int, sign int)) {
	order := make([]int, n)
	for i := range order {
		order[i] = i
	}
	var arrange func(from, sign int)
	arrange = func(from, sign int) {
		if from == n {
			f(order, sign)
			return
		}
		for i := from; i < n; i++ {
			s := sign
			if i != from {
				s = -sign
			}
			order[from], order[i] = order[i], order[from]
			arrange(from+1, s)
			order[from], order[i] = order[i], order[from]
		}
	}
	arrange(0, 1)
}

// What the chapter says, told another way: with fractions of any size, from the centre and the distances themselves.

func fits(l ...api.Point) bool {
	for _, p := range l {
		if max(p.X, p.Y) > bound || min(p.X, p.Y) < -bound {
			return false
		}
	}
	return true
}

func rat(n int) *big.Rat {
	return new(big.Rat).SetInt64(int64(n))
}

func mul(a, b *big.Rat) *big.Rat {
	return new(big.Rat).Mul(a, b)
}

func sub(a, b *big.Rat) *big.Rat {
	return new(big.Rat).Sub(a, b)
}

func add(a, b *big.Rat) *big.Rat {
	return new(big.Rat).Add(a, b)
}

// place is a point anywhere.
type place struct{ x, y *big.Rat }

func exact(p api.Point) place {
	return place{rat(p.X), rat(p.Y)}
}

// far is the square of a distance.
func far(p, q place) *big.Rat {
	x, y := sub(p.x, q.x), sub(p.y, q.y)
	return add(mul(x, x), mul(y, y))
}

func halfway(p, q place) place {
	half := big.NewRat(1, 2)
	return place{mul(half, add(p.x, q.x)), mul(half, add(p.y, q.y))}
}

// area is twice the area that is on the left of the path a, b, c, a.
func area(a, b, c place) *big.Rat {
	total := new(big.Rat)
	for _, side := range [][2]place{{a, b}, {b, c}, {c, a}} {
		p, q := side[0], side[1]
		total.Add(total, sub(mul(p.x, q.y), mul(q.x, p.y)))
	}
	return total
}

// centre is as far from a as from b and from c; there is none if they are collinear.
func centre(a, b, c place) (place, bool) {
	twice := area(a, b, c)
	if twice.Sign() == 0 {
		return place{}, false
	}
	size := func(p place) *big.Rat { return add(mul(p.x, p.x), mul(p.y, p.y)) }
	// By Cramer's rule, from the equations of two perpendicular bisectors.
	x, y := new(big.Rat), new(big.Rat)
	for _, corner := range [][3]place{{a, b, c}, {b, c, a}, {c, a, b}} {
		x.Add(x, mul(size(corner[0]), sub(corner[1].y, corner[2].y)))
		y.Add(y, mul(size(corner[0]), sub(corner[2].x, corner[1].x)))
	}
	twice.Add(twice, twice)
	return place{x.Quo(x, twice), y.Quo(y, twice)}, true
}

// nearest is the nearest integer, the greater one of two.
func nearest(r *big.Rat) *big.Int {
	r = add(r, big.NewRat(1, 2))
	return new(big.Int).Div(r.Num(), r.Denom())
}

func wantOrient(a, b, c api.Point) int {
	if !fits(a, b, c) {
		return 0
	}
	return area(exact(a), exact(b), exact(c)).Sign()
}

func wantInCircle(a, b, c, d api.Point) int {
	if !fits(a, b, c, d) {
		return 0
	}
	m, ok := centre(exact(a), exact(b), exact(c))
	if !ok {
		return 0
	}
	return far(m, exact(a)).Cmp(far(m, exact(d)))
}

func wantInDisc(a, b, p api.Point) bool {
	if !fits(a, b, p) || p == a || p == b {
		return false
	}
	m := halfway(exact(a), exact(b))
	return far(m, exact(p)).Cmp(far(m, exact(a))) <= 0
}

func wantSkinny(a, b, c api.Point) bool {
	if !fits(a, b, c) {
		return false
	}
	x, y, z := exact(a), exact(b), exact(c)
	m, ok := centre(x, y, z)
	if !ok {
		return true
	}
	for _, side := range []*big.Rat{far(x, y), far(y, z), far(z, x)} {
		if far(m, x).Cmp(add(side, side)) > 0 {
			return true
		}
	}
	return false
}

func wantMiddle(a, b api.Point) (api.Point, bool) {
	m := halfway(exact(a), exact(b))
	if !fits(a, b) || !m.x.IsInt() || !m.y.IsInt() {
		return api.Point{}, false
	}
	return at(int(m.x.Num().Int64()), int(m.y.Num().Int64())), true
}

func wantCentre(a, b, c api.Point) (api.Point, api.Errno) {
	if !fits(a, b, c) {
		return api.Point{}, api.ErrArg
	}
	m, ok := centre(exact(a), exact(b), exact(c))
	if !ok {
		return api.Point{}, api.ErrArg
	}
	x, y := nearest(m.x), nearest(m.y)
	most := big.NewInt(bound)
	if x.CmpAbs(most) > 0 || y.CmpAbs(most) > 0 {
		return api.Point{}, api.ErrRange
	}
	return at(int(x.Int64()), int(y.Int64())), api.OK
}

func wantConvex(l []api.Point) bool {
	for i := range l {
		for k := i + 1; k < len(l); k++ {
			for m := k + 1; m < len(l); m++ {
				if wantOrient(l[i], l[k], l[m]) != 1 {
					return false
				}
			}
		}
	}
	return len(l) >= 3
}

// check holds all calls that take these points against what the chapter says.
func check(t *testing.T, a, b, c, d api.Point) {
	t.Helper()
	if got, want := pred.Fits(a, b, c, d), fits(a, b, c, d); got != want {
		t.Fatalf("Fits(%v, %v, %v, %v) = %v", a, b, c, d, got)
	}
	if got, want := pred.Orient(a, b, c), wantOrient(a, b, c); got != want {
		t.Fatalf("Orient(%v, %v, %v) = %d, want %d", a, b, c, got, want)
	}
	if got, want := pred.InCircle(a, b, c, d), wantInCircle(a, b, c, d); got != want {
		t.Fatalf("InCircle(%v, %v, %v, %v) = %d, want %d", a, b, c, d, got, want)
	}
	if got, want := pred.InDisc(a, b, c), wantInDisc(a, b, c); got != want {
		t.Fatalf("InDisc(%v, %v, %v) = %v, want %v", a, b, c, got, want)
	}
	if got, want := pred.Skinny(a, b, c), wantSkinny(a, b, c); got != want {
		t.Fatalf("Skinny(%v, %v, %v) = %v, want %v", a, b, c, got, want)
	}
	for _, l := range [][]api.Point{{a, b, c, d}, {a, b, c}} {
		if got, want := pred.Convex(l...), wantConvex(l); got != want {
			t.Fatalf("Convex(%v) = %v, want %v", l, got, want)
		}
	}
	m, ok := pred.Middle(a, b)
	if want, wantOk := wantMiddle(a, b); m != want || ok != wantOk {
		t.Fatalf("Middle(%v, %v) = %v, %v, want %v, %v", a, b, m, ok, want, wantOk)
	}
	o, e := pred.Centre(a, b, c)
	if want, wantE := wantCentre(a, b, c); o != want || e != wantE {
		t.Fatalf("Centre(%v, %v, %v) = %v, %d, want %v, %d", a, b, c, o, e, want, wantE)
	}
}

// lengths are numbers at whose borders the ways of computing change: differences, squares and areas that just do or do not fit into 64 bits.
func lengths() []int {
	l := []int{0, 1, 2, 3, 1 << 20, 1 << 26, 1<<30 - 1, 1 << 30, 1<<31 - 1, 1 << 31, 1<<31 + 1, 2147483629, 3037000499, 3037000500, bound - 1, bound}
	for _, n := range slices.Clone(l) {
		l = append(l, -n)
	}
	return l
}

// draws calls f with points of several kinds, the same ones in each run; all of them fit.
func draws(n int, f func(a, b, c, d api.Point)) {
	r := rand.New(rand.NewPCG(5, 6))
	kinds := []func(*rand.Rand) [4]api.Point{edgy, cornered, rectangle, line, anywhere}
	within := func(n int) int { return min(max(n, -bound), bound) }
	for i := range n {
		l := kinds[i%len(kinds)](r)
		for k, p := range l {
			l[k] = at(within(p.X), within(p.Y))
		}
		r.Shuffle(len(l), func(i, k int) { l[i], l[k] = l[k], l[i] })
		f(l[0], l[1], l[2], l[3])
	}
}

func edgy(r *rand.Rand) (l [4]api.Point) {
	n := lengths()
	for i := range l {
		l[i] = at(n[r.IntN(len(n))], n[r.IntN(len(n))])
	}
	return l
}

// near are points that are all within some distance of the origin, whatever its order of magnitude.
func near(r *rand.Rand, bits int) (l [4]api.Point) {
	size := 1 << r.IntN(bits)
	for i := range l {
		l[i] = at(r.IntN(2*size+1)-size, r.IntN(2*size+1)-size)
	}
	return l
}

func anywhere(r *rand.Rand) [4]api.Point {
	return near(r, 33)
}

// cornered are points near to each other, but far from the origin.
func cornered(r *rand.Rand) [4]api.Point {
	l, corner := near(r, 8), edgy(r)[0]
	for i, p := range l {
		l[i] = plus(p, corner)
	}
	return l
}

// rectangle has all corners on one circle.
func rectangle(r *rand.Rand) [4]api.Point {
	l := near(r, 31)
	a, u, n := l[0], l[1], r.IntN(4)-2
	v := turned(at(n*u.X, n*u.Y))
	return [4]api.Point{a, plus(a, u), plus(plus(a, u), v), plus(a, v)}
}

// line has three points on one line, and perhaps two that are the same.
func line(r *rand.Rand) [4]api.Point {
	l := near(r, 31)
	a, u, n := l[0], l[1], r.IntN(5)-2
	return [4]api.Point{a, plus(a, u), plus(a, at(n*u.X, n*u.Y)), l[3]}
}

func TestExamples(t *testing.T) {
	a, b, c := at(0, 0), at(4, 0), at(0, 4)
	if pred.Orient(a, b, c) != 1 || pred.InCircle(a, b, c, at(4, 4)) != 0 || pred.InCircle(a, b, c, at(3, 3)) != 1 || pred.Skinny(a, b, c) {
		t.Error("Orient, InCircle, Skinny")
	}
	if !pred.InDisc(a, b, at(2, 2)) {
		t.Error("InDisc")
	}
	if o, e := pred.Centre(a, b, c); o != at(2, 2) || e != api.OK {
		t.Error("Centre", o, e)
	}
	if o, e := pred.Centre(at(0, 0), at(1, 0), at(0, 1)); o != at(1, 1) || e != api.OK {
		t.Error("Centre", o, e)
	}
	// Of the document's ten examples.
	if !pred.Skinny(at(0, 0), at(8, 0), at(4, 1)) || !pred.InDisc(at(0, 0), at(8, 0), at(4, 1)) {
		t.Error("the triangle is skinny, and its long side crowded")
	}
	if m, ok := pred.Middle(at(0, 0), at(8, 0)); m != at(4, 0) || !ok {
		t.Error("Middle", m, ok)
	}
	if pred.InCircle(at(0, 0), at(4, -1), at(8, 0), at(4, 1)) != 1 {
		t.Error("the edge is bad")
	}
}

// All places of four points on a small grid, in the middle and at the corners of what fits: same points and lines among them.
func TestSmallGrids(t *testing.T) {
	for _, corner := range []api.Point{at(-1, -1), at(bound-2, bound-2), at(-bound, bound-2), at(-bound, -bound)} {
		var grid []api.Point
		for i := range 9 {
			grid = append(grid, plus(corner, at(i%3, i/3)))
		}
		for _, a := range grid {
			for _, b := range grid {
				for _, c := range grid {
					for _, d := range grid {
						check(t, a, b, c, d)
					}
				}
			}
		}
	}
}

// P2: signs are exact, and what does not fit is reported, for points of any size.
func TestAgainstFractions(t *testing.T) {
	draws(40000, func(a, b, c, d api.Point) { check(t, a, b, c, d) })
}

func TestOrient(t *testing.T) {
	const b = bound
	for _, x := range []struct {
		a, b, c api.Point
		want    int
	}{
		{at(0, 0), at(4, 0), at(4, 1), 1}, {at(0, 0), at(4, 0), at(4, -1), -1}, {at(0, 0), at(4, 0), at(-4, 1), 1},
		// On one line: between, behind, before.
		{at(0, 0), at(4, 2), at(2, 1), 0}, {at(0, 0), at(4, 2), at(6, 3), 0}, {at(0, 0), at(4, 2), at(-2, -1), 0},
		{at(-b, -b), at(b, b), at(0, 0), 0}, {at(-b, b), at(b, -b), at(1, -1), 0}, {at(b, -b), at(b, b), at(b, 0), 0},
		// Two or three points that are the same.
		{at(1, 2), at(1, 2), at(5, 9), 0}, {at(1, 2), at(5, 9), at(1, 2), 0}, {at(5, 9), at(1, 2), at(1, 2), 0},
		{at(7, 7), at(7, 7), at(7, 7), 0}, {at(b, -b), at(b, -b), at(b, -b), 0}, {at(b, b), at(b, b), at(-b, -b), 0},
		// The smallest area between the greatest differences.
		{at(-b, -b), at(b, b-1), at(b-1, b-2), -1}, {at(-b, -b), at(b-1, b-2), at(b, b-1), 1},
		{at(b, b), at(-b, 1-b), at(1-b, 2-b), -1}, {at(-b, b), at(b-1, 2-b), at(b, 1-b), -1},
		// The greatest areas.
		{at(-b, -b), at(b, -b), at(b, b), 1}, {at(-b, -b), at(b, b), at(b, -b), -1}, {at(-b, b), at(-b, -b), at(b, -b), 1},
	} {
		if got := pred.Orient(x.a, x.b, x.c); got != x.want {
			t.Errorf("Orient(%v, %v, %v) = %d, want %d", x.a, x.b, x.c, got, x.want)
		}
	}
}

// Points on a circle, one step inside it and one step outside, also with the greatest coordinates.
func TestInCircle(t *testing.T) {
	const r = bound - 1 // 3 * 5 * 17 * 257 * 65537
	for _, k := range []int{1, 1000, bound / 100} {
		rim := []api.Point{at(5*k, 0), at(4*k, 3*k), at(3*k, 4*k), at(0, 5*k), at(-3*k, 4*k), at(-5*k, 0), at(-4*k, -3*k), at(0, -5*k), at(3*k, -4*k)}
		checkRim(t, rim)
	}
	checkRim(t, []api.Point{at(r, 0), at(r/5*4, r/5*3), at(r/17*8, r/17*15), at(0, r), at(-r/5*3, r/5*4), at(-r/17*15, r/17*8), at(-r, 0), at(-r/5*4, -r/5*3), at(0, -r), at(r/5*3, -r/5*4)})
	checkRim(t, []api.Point{at(bound, 0), at(0, bound), at(-bound, 0), at(0, -bound)})
	corners := []api.Point{at(-bound, -bound), at(bound, -bound), at(bound, bound), at(-bound, bound)}
	for _, d := range corners {
		for i, c := range corners {
			a, b := corners[(i+1)%4], corners[(i+2)%4]
			if n := pred.InCircle(a, b, c, d); n != 0 {
				t.Errorf("corner %v: %d", d, n)
			}
			if n := pred.InCircle(a, b, c, at(d.X-d.X/bound, d.Y)); n != 1 {
				t.Errorf("beside the corner %v: %d", d, n)
			}
		}
	}
}

// checkRim takes points of a circle about the origin: each is on the circle through the others, and is not after one step.
func checkRim(t *testing.T, rim []api.Point) {
	t.Helper()
	step := func(n int) int { return max(-1, min(n, 1)) }
	for i, d := range rim {
		a, b, c := rim[(i+1)%len(rim)], rim[(i+2)%len(rim)], rim[(i+3)%len(rim)]
		inward := []api.Point{at(d.X-step(d.X), d.Y-step(d.Y)), at(d.X-step(d.X), d.Y), at(d.X, d.Y-step(d.Y))}
		outward := []api.Point{at(d.X+step(d.X), d.Y+step(d.Y)), at(d.X+step(d.X), d.Y), at(d.X, d.Y+step(d.Y))}
		if n := pred.InCircle(a, b, c, d); n != 0 {
			t.Errorf("%v is on the circle of %v, %v, %v: %d", d, a, b, c, n)
		}
		for k := range inward {
			if p := inward[k]; p != d && pred.InCircle(a, b, c, p) != 1 {
				t.Errorf("%v is inside the circle of %v, %v, %v", p, a, b, c)
			}
			if p := outward[k]; p != d && fits(p) && pred.InCircle(a, b, c, p) != -1 {
				t.Errorf("%v is outside the circle of %v, %v, %v", p, a, b, c)
			}
		}
		if pred.InCircle(a, b, c, a) != 0 || pred.InCircle(a, b, c, b) != 0 || pred.InCircle(a, b, c, c) != 0 {
			t.Errorf("%v, %v, %v are on their own circle", a, b, c)
		}
	}
}

// Where there is no circle, nothing is inside or outside.
func TestInCircleOfALine(t *testing.T) {
	for _, l := range [][3]api.Point{
		{at(0, 0), at(1, 1), at(2, 2)}, {at(3, 3), at(3, 3), at(5, 9)}, {at(3, 3), at(5, 9), at(3, 3)}, {at(5, 9), at(3, 3), at(3, 3)},
		{at(3, 3), at(3, 3), at(3, 3)}, {at(-bound, -bound), at(bound, bound), at(0, 0)}, {at(-bound, 5), at(bound, 5), at(0, 5)},
	} {
		for _, d := range []api.Point{at(1, 0), at(3, 3), at(0, 0), at(1, 1), at(4, 6), at(bound, -bound), at(-bound, bound)} {
			if n := pred.InCircle(l[0], l[1], l[2], d); n != 0 {
				t.Errorf("InCircle of %v with %v: %d", l, d, n)
			}
		}
	}
}

func TestInDisc(t *testing.T) {
	const b = bound
	for _, x := range []struct {
		a, b, p api.Point
		want    bool
	}{
		// On the rim, one step inside and one step outside.
		{at(0, 0), at(4, 0), at(2, 2), true}, {at(0, 0), at(4, 0), at(2, -2), true}, {at(0, 0), at(4, 0), at(2, 1), true}, {at(0, 0), at(4, 0), at(2, 3), false},
		{at(0, 0), at(10, 0), at(1, 3), true}, {at(0, 0), at(10, 0), at(1, 4), false}, {at(0, 0), at(10, 0), at(0, 1), false}, {at(0, 0), at(10, 0), at(1, 2), true},
		{at(-b, 0), at(b, 0), at(0, b), true}, {at(-b, 0), at(b, 0), at(1, b), false}, {at(-b, 0), at(b, 0), at(0, b-1), true}, {at(-b, 0), at(b, 0), at(b-1, 1), true},
		{at(-b, -b), at(b, b), at(b, -b), true}, {at(-b, -b), at(b, b), at(b-1, -b), true}, {at(1-b, -b), at(b, b), at(-b, b), false}, {at(-b, 1-b), at(b, b), at(b, -b), false},
		// On the diameter, and on the line beyond its ends.
		{at(0, 0), at(4, 0), at(1, 0), true}, {at(0, 0), at(4, 0), at(3, 0), true}, {at(0, 0), at(4, 0), at(5, 0), false}, {at(0, 0), at(4, 0), at(-1, 0), false},
		// At a, at b, and where these are the same.
		{at(0, 0), at(4, 0), at(0, 0), false}, {at(0, 0), at(4, 0), at(4, 0), false}, {at(-b, b), at(b, -b), at(b, -b), false}, {at(-b, b), at(b, -b), at(-b, b), false},
		{at(2, 2), at(2, 2), at(2, 2), false}, {at(2, 2), at(2, 2), at(2, 3), false}, {at(b, b), at(b, b), at(-b, -b), false},
		// A diameter of one step, and a slanted one: their other grid points are on the rim.
		{at(0, 0), at(1, 0), at(1, 1), false}, {at(0, 0), at(1, 1), at(1, 0), true}, {at(0, 0), at(1, 1), at(0, 1), true}, {at(0, 0), at(1, 1), at(2, 0), false},
	} {
		if got := pred.InDisc(x.a, x.b, x.p); got != x.want {
			t.Errorf("InDisc(%v, %v, %v) = %v", x.a, x.b, x.p, got)
		}
	}
}

func TestConvex(t *testing.T) {
	const b = bound
	for _, x := range []struct {
		l    []api.Point
		want bool
	}{
		{nil, false}, {[]api.Point{}, false}, {[]api.Point{at(0, 0)}, false}, {[]api.Point{at(0, 0), at(1, 0)}, false},
		{[]api.Point{at(0, 0), at(1, 0), at(0, 1)}, true}, {[]api.Point{at(0, 0), at(0, 1), at(1, 0)}, false}, {[]api.Point{at(0, 0), at(1, 1), at(2, 2)}, false},
		{[]api.Point{at(0, 0), at(2, 0), at(2, 2), at(0, 2)}, true}, {[]api.Point{at(0, 2), at(2, 2), at(2, 0), at(0, 0)}, false},
		{[]api.Point{at(-b, -b), at(b, -b), at(b, b), at(-b, b)}, true}, {[]api.Point{at(-b, -b), at(b, -b), at(b, b), at(0, 0)}, false},
		// A corner that is straight, one that is hollow, and a loop that crosses itself.
		{[]api.Point{at(0, 0), at(2, 0), at(4, 0), at(0, 2)}, false}, {[]api.Point{at(0, 0), at(4, 0), at(1, 1), at(0, 4)}, false}, {[]api.Point{at(0, 0), at(2, 2), at(2, 0), at(0, 2)}, false},
		{[]api.Point{at(1, 1), at(0, 4), at(0, 0), at(4, 0)}, false}, {[]api.Point{at(2, 0), at(4, 0), at(0, 2), at(0, 0)}, false}, {[]api.Point{at(0, 2), at(0, 0), at(2, 0), at(4, 0)}, false},
		// Points that are the same.
		{[]api.Point{at(0, 0), at(2, 0), at(2, 0), at(0, 2)}, false}, {[]api.Point{at(0, 0), at(2, 0), at(0, 2), at(0, 0)}, false}, {[]api.Point{at(1, 1), at(1, 1), at(1, 1)}, false},
		// Each next corner turns left, but the way goes round twice: a star, a triangle and a square gone round once more.
		{[]api.Point{at(0, 10), at(-6, -8), at(9, 3), at(-9, 3), at(6, -8)}, false}, {[]api.Point{at(0, 10), at(-9, 3), at(-6, -8), at(6, -8), at(9, 3)}, true},
		{[]api.Point{at(0, 0), at(4, 0), at(0, 4), at(0, 0), at(4, 0), at(0, 4)}, false},
		{[]api.Point{at(0, 0), at(9, 0), at(9, 9), at(0, 9), at(1, 1), at(8, 1), at(8, 8), at(1, 8)}, false},
		// The last corner is beyond the first side.
		{[]api.Point{at(0, 0), at(4, 0), at(6, 2), at(6, 4), at(3, 6), at(2, 7), at(-6, -1), at(-5, -5)}, false},
	} {
		if got := pred.Convex(x.l...); got != x.want {
			t.Errorf("Convex(%v) = %v", x.l, got)
		}
	}
}

// All lists of five points of a small grid, and drawn ones of up to eight: each three of them turn left.
func TestConvexLooksAtEachThree(t *testing.T) {
	left := func(a, b, c api.Point) bool { return (b.X-a.X)*(c.Y-a.Y) > (b.Y-a.Y)*(c.X-a.X) }
	all := func(l []api.Point) bool {
		for i := range l {
			for k := range i {
				for m := range k {
					if !left(l[m], l[k], l[i]) {
						return false
					}
				}
			}
		}
		return true
	}
	for n := range 9 * 9 * 9 * 9 * 9 {
		var l []api.Point
		for range 5 {
			l = append(l, at(n%9%3, n%9/3))
			n /= 9
		}
		if pred.Convex(l...) != all(l) {
			t.Fatalf("Convex(%v) = %v", l, !all(l))
		}
	}
	r := rand.New(rand.NewPCG(7, 8))
	found := 0
	for range 200000 {
		var l []api.Point
		for range 3 + r.IntN(6) {
			l = append(l, at(r.IntN(41)-20, r.IntN(41)-20))
		}
		if r.IntN(2) == 0 {
			// By their angle about the origin, which makes convex lists likely.
			slices.SortFunc(l, func(p, q api.Point) int {
				if math.Atan2(float64(p.Y), float64(p.X)) < math.Atan2(float64(q.Y), float64(q.X)) {
					return -1
				}
				return 1
			})
		}
		want := all(l)
		if want {
			found++
		}
		if pred.Convex(l...) != want {
			t.Fatalf("Convex(%v) = %v", l, !want)
		}
	}
	if found < 1000 {
		t.Error("too few convex lists drawn", found)
	}
}

// P1: a long list ends too, though it has more threes than could be looked at.
func TestConvexOfManyPoints(t *testing.T) {
	var l []api.Point
	for i := range 1 << 16 {
		l = append(l, at(i, i*i))
	}
	if !pred.Convex(l...) {
		t.Error("a parabola is convex")
	}
	for _, i := range []int{0, 1, 2, 40000, len(l) - 2, len(l) - 1} {
		kept := l[i]
		raised := at(kept.X, kept.Y+3)
		for _, p := range []api.Point{l[(i+1)%len(l)], l[(i+2)%len(l)], raised, at(bound+1, 0), at(0, -bound)} {
			l[i] = p
			// Raised between its neighbours a point is above their midpoint; an end is free to rise.
			if pred.Convex(l...) != (p == raised && (i == 0 || i == len(l)-1)) {
				t.Errorf("with %v at %d", p, i)
			}
		}
		l[i] = kept
	}
}

// Of grid points no circle has just the radius at which triangles begin to be skinny, as 7 is not the square of a fraction:
// these are as near to it as can be. At the first point, the square of the dot product of the sides is 7 times the square of
// the cross product, and so much more.
func TestJustSkinny(t *testing.T) {
	for _, x := range []struct {
		a, b, c api.Point
		more    int64
		want    bool
	}{
		{at(0, 0), at(12, -1), at(7, 2), -3, false},
		{at(0, 0), at(225, 196), at(254, 473), -3, false},
		{at(0, 0), at(28917708, -10662037), at(21633541, 175858), -3, false},
		{at(0, 0), at(-196421614, -776802925), at(53123532, -465212591), -3, false},
		{at(0, 0), at(1361197405, 1962733516), at(763280033, 3052876505), -38, false},
		{at(-2599391100, 5), at(1219611382, -1439574802), at(2599391100, 4614154), -19, false},
		{at(0, 0), at(2401940, 1293097), at(2165819, 2491564), 1, true},
		{at(0, 0), at(2401940*1700, 1293097*1700), at(2165819*1700, 2491564*1700), 1700 * 1700 * 1700 * 1700, true},
	} {
		dot, cross, square := new(big.Int), new(big.Int), new(big.Int)
		term := func(sum *big.Int, sign, x, y int) {
			sum.Add(sum, new(big.Int).Mul(big.NewInt(int64(sign*x)), big.NewInt(int64(y))))
		}
		u, v := at(x.b.X-x.a.X, x.b.Y-x.a.Y), at(x.c.X-x.a.X, x.c.Y-x.a.Y)
		term(dot, 1, u.X, v.X)
		term(dot, 1, u.Y, v.Y)
		term(cross, 1, u.X, v.Y)
		term(cross, -1, u.Y, v.X)
		square.Mul(dot, dot).Sub(square, cross.Mul(cross, cross).Mul(cross, big.NewInt(7)))
		if square.Cmp(big.NewInt(x.more)) != 0 {
			t.Errorf("%v, %v, %v are not that near: %v", x.a, x.b, x.c, square)
		}
		if wantSkinny(x.a, x.b, x.c) != x.want {
			t.Errorf("%v, %v, %v: wrongly expected", x.a, x.b, x.c)
		}
		orders(3, func(o []int, _ int) {
			l := []api.Point{x.a, x.b, x.c}
			if pred.Skinny(l[o[0]], l[o[1]], l[o[2]]) != x.want {
				t.Errorf("Skinny(%v, %v, %v) = %v", l[o[0]], l[o[1]], l[o[2]], !x.want)
			}
		})
	}
}

func TestSkinny(t *testing.T) {
	const b = bound
	for _, x := range []struct {
		a, b, c api.Point
		want    bool
	}{
		{at(0, 0), at(4, 0), at(0, 4), false}, {at(0, 0), at(1, 0), at(0, 1), false}, {at(0, 0), at(9, 0), at(4, 1), true}, {at(0, 0), at(8, 0), at(4, 1), true},
		// The height of a triangle on a side of 8: the angle at its tip gets smaller, then those at the side.
		{at(0, 0), at(8, 0), at(4, 22), true}, {at(0, 0), at(8, 0), at(4, 21), false}, {at(0, 0), at(8, 0), at(4, 2), false}, {at(0, 0), at(8, 0), at(4, -1), true},
		// Collinear, and the same.
		{at(0, 0), at(1, 1), at(2, 2), true}, {at(0, 0), at(0, 0), at(1, 0), true}, {at(3, 3), at(3, 3), at(3, 3), true}, {at(-b, -b), at(0, 0), at(b, b), true},
		{at(-b, -b), at(b, -b), at(b, b), false}, {at(-b, -b), at(b, b), at(b, b-1), true}, {at(-b, -b), at(b, -b), at(0, -b+1), true}, {at(-b, 0), at(b, 0), at(0, b), false},
	} {
		if got := pred.Skinny(x.a, x.b, x.c); got != x.want || got != wantSkinny(x.a, x.b, x.c) {
			t.Errorf("Skinny(%v, %v, %v) = %v", x.a, x.b, x.c, got)
		}
	}
}

func TestMiddle(t *testing.T) {
	const b = bound
	for _, x := range []struct {
		a, b, want api.Point
		ok         bool
	}{
		{at(-3, 4), at(5, 0), at(1, 2), true}, {at(-3, -4), at(-5, 0), at(-4, -2), true}, {at(7, -9), at(7, -9), at(7, -9), true}, {at(1, -1), at(-1, 1), at(0, 0), true},
		{at(b, b), at(b, b), at(b, b), true}, {at(-b, -b), at(-b, -b), at(-b, -b), true}, {at(b, -b), at(-b, b), at(0, 0), true}, {at(b, 1-b), at(b-2, -1-b+2), at(b-1, 1-b), true},
		// No grid point: across, upwards, both, above and below zero.
		{at(0, 0), at(1, 0), at(0, 0), false}, {at(0, 0), at(0, 1), at(0, 0), false}, {at(0, 0), at(1, 1), at(0, 0), false}, {at(0, 0), at(-1, 0), at(0, 0), false},
		{at(0, -4), at(6, -1), at(0, 0), false}, {at(-4, 2), at(-1, 2), at(0, 0), false}, {at(b, b), at(b-1, b), at(0, 0), false}, {at(-b, -b), at(-b, 1-b), at(0, 0), false},
	} {
		for range 2 {
			if m, ok := pred.Middle(x.a, x.b); m != x.want || ok != x.ok {
				t.Errorf("Middle(%v, %v) = %v, %v", x.a, x.b, m, ok)
			}
			x.a, x.b = x.b, x.a
		}
	}
}

func TestCentre(t *testing.T) {
	const b = bound
	for _, x := range []struct {
		a, b, c, want api.Point
		e             api.Errno
	}{
		// Halfway between two integers, above and below zero.
		{at(0, 0), at(1, 0), at(0, 1), at(1, 1), api.OK}, {at(0, 0), at(-1, 0), at(0, -1), at(0, 0), api.OK}, {at(0, 0), at(3, 0), at(0, 5), at(2, 3), api.OK},
		{at(0, 0), at(-3, 0), at(0, -5), at(-1, -2), api.OK}, {at(0, 0), at(-3, 0), at(0, 5), at(-1, 3), api.OK}, {at(0, 0), at(3, 0), at(0, -4), at(2, -2), api.OK},
		{at(-7, -7), at(-8, -7), at(-7, -8), at(-7, -7), api.OK},
		// Nearer to one of them: from 5/6, -5/6, 1/6 and -1/6.
		{at(0, 0), at(1, 2), at(2, 1), at(1, 1), api.OK}, {at(0, 0), at(-1, -2), at(-2, -1), at(-1, -1), api.OK},
		{at(1, 1), at(0, -1), at(-1, 0), at(0, 0), api.OK}, {at(-1, -1), at(0, 1), at(1, 0), at(0, 0), api.OK},
		// Collinear, and the same.
		{at(0, 0), at(1, 1), at(2, 2), at(0, 0), api.ErrArg}, {at(5, 5), at(5, 5), at(1, 2), at(0, 0), api.ErrArg}, {at(5, 5), at(5, 5), at(5, 5), at(0, 0), api.ErrArg}, {at(-b, b), at(b, -b), at(0, 0), at(0, 0), api.ErrArg},
		// The centre at the bounds, and one beyond.
		{at(b-5, 0), at(b, 5), at(b, -5), at(b, 0), api.OK}, {at(0, b-5), at(5, b), at(-5, b), at(0, b), api.OK}, {at(5-b, 0), at(-b, 5), at(-b, -5), at(-b, 0), api.OK},
		{at(b, 3), at(b, -3), at(b-2, 1), at(0, 0), api.ErrRange}, {at(-b, 3), at(-b, -3), at(2-b, 1), at(0, 0), api.ErrRange},
		{at(3, b), at(-3, b), at(1, b-2), at(0, 0), api.ErrRange}, {at(3, -b), at(-3, -b), at(1, 2-b), at(0, 0), api.ErrRange},
		// Half a step beyond the bounds: rounded up, which is out of them above, and into them below.
		{at(b, 4), at(b, -4), at(b-3, 2), at(0, 0), api.ErrRange}, {at(-b, 4), at(-b, -4), at(3-b, 2), at(-b, 0), api.OK},
		{at(4, b), at(-4, b), at(2, b-3), at(0, 0), api.ErrRange}, {at(4, -b), at(-4, -b), at(2, 3-b), at(0, -b), api.OK},
		// Far away: also by more than an int has room for.
		{at(-b, 0), at(b, 0), at(0, 1), at(0, 0), api.ErrRange}, {at(-b, -b), at(b, b-1), at(b-1, b-2), at(0, 0), api.ErrRange}, {at(b, b), at(-b, 1-b), at(1-b, 2-b), at(0, 0), api.ErrRange},
		// Only upwards, or only across, while the other coordinate is b.
		{at(-b, 0), at(b, 1), at(b-1, 1), at(0, 0), api.ErrRange}, {at(0, -b), at(-1, b), at(-1, b-1), at(0, 0), api.ErrRange},
		{at(-b, 0), at(b, -1), at(b-1, -1), at(0, 0), api.ErrRange}, {at(0, -b), at(1, b), at(1, b-1), at(0, 0), api.ErrRange},
		{at(-b, -b), at(b, -b), at(b, b), at(0, 0), api.OK}, {at(-b, -b), at(b, -b), at(b-1, b), at(0, 0), api.OK},
	} {
		l := []api.Point{x.a, x.b, x.c}
		if want, e := wantCentre(x.a, x.b, x.c); want != x.want || e != x.e {
			t.Errorf("Centre of %v: wrongly expected: %v, %d, by fractions %v, %d", l, x.want, x.e, want, e)
		}
		orders(3, func(o []int, _ int) {
			if got, e := pred.Centre(l[o[0]], l[o[1]], l[o[2]]); got != x.want || e != x.e {
				t.Errorf("Centre(%v, %v, %v) = %v, %d, want %v, %d", l[o[0]], l[o[1]], l[o[2]], got, e, x.want, x.e)
			}
		})
	}
}

func TestFits(t *testing.T) {
	if !pred.Fits() || !pred.Fits(nil...) || !pred.Fits([]api.Point{}...) {
		t.Error("no point at all fits")
	}
	for _, n := range []int{0, 1, -1, 1 << 31, -1 << 31, bound - 1, bound, 1 - bound, -bound} {
		if !pred.Fits(at(n, 0)) || !pred.Fits(at(0, n)) || !pred.Fits(at(n, n), at(-n, n), at(n, -n)) {
			t.Errorf("%d fits", n)
		}
	}
	good := at(bound, -bound)
	for _, n := range []int{bound + 1, -bound - 1, 1 << 33, -1 << 33, math.MaxInt, math.MinInt, math.MinInt + 1} {
		for _, p := range []api.Point{at(n, 0), at(0, n), at(n, n), at(-n, n)} {
			if pred.Fits(p) || pred.Fits(p, good) || pred.Fits(good, p) || pred.Fits(good, p, good) || pred.Fits(good, good, good, good, good, p) {
				t.Errorf("%v does not fit", p)
			}
		}
	}
}

// answer is what any of the calls answers: a number, a truth, a point, an error.
type answer struct {
	n  int
	ok bool
	p  api.Point
	e  api.Errno
}

// asked is a call with points for it, each of them the only outermost one in some direction, and what it answers: nothing that is zero.
type asked struct {
	name string
	call func(l []api.Point) answer
	l    []api.Point
	want answer
	none answer // for points that do not fit
	// Whether the answer's point moves along with the others.
	moves bool
}

func everyCall() []asked {
	convex := func(l []api.Point) answer { return answer{ok: pred.Convex(l...)} }
	return []asked{
		{name: "Orient", call: func(l []api.Point) answer { return answer{n: pred.Orient(l[0], l[1], l[2])} },
			l: []api.Point{at(0, 10), at(30, 0), at(40, 30)}, want: answer{n: 1}},
		{name: "Orient", call: func(l []api.Point) answer { return answer{n: pred.Orient(l[0], l[1], l[2])} },
			l: []api.Point{at(0, 10), at(40, 30), at(30, 0)}, want: answer{n: -1}},
		{name: "InCircle", call: func(l []api.Point) answer { return answer{n: pred.InCircle(l[0], l[1], l[2], l[3])} },
			l: []api.Point{at(0, 10), at(30, 0), at(40, 30), at(10, 39)}, want: answer{n: 1}},
		{name: "InCircle", call: func(l []api.Point) answer { return answer{n: pred.InCircle(l[0], l[1], l[2], l[3])} },
			l: []api.Point{at(0, 10), at(40, 30), at(30, 0), at(10, 41)}, want: answer{n: -1}},
		{name: "InDisc", call: func(l []api.Point) answer { return answer{ok: pred.InDisc(l[0], l[1], l[2])} },
			l: []api.Point{at(0, 0), at(40, 10), at(20, 20)}, want: answer{ok: true}},
		{name: "Convex", call: convex, l: []api.Point{at(0, 10), at(30, 0), at(40, 30), at(10, 40)}, want: answer{ok: true}},
		{name: "Convex", call: convex, l: []api.Point{at(0, 10), at(30, 0), at(40, 30)}, want: answer{ok: true}},
		{name: "Skinny", call: func(l []api.Point) answer { return answer{ok: pred.Skinny(l[0], l[1], l[2])} },
			l: []api.Point{at(0, 1), at(90, 0), at(40, 9)}, want: answer{ok: true}},
		{name: "Middle", call: func(l []api.Point) answer { m, ok := pred.Middle(l[0], l[1]); return answer{p: m, ok: ok} },
			l: []api.Point{at(0, 0), at(4, 2)}, want: answer{p: at(2, 1), ok: true}, moves: true},
		{name: "Centre", call: func(l []api.Point) answer { m, e := pred.Centre(l[0], l[1], l[2]); return answer{p: m, e: e} },
			l: []api.Point{at(0, 10), at(30, 0), at(40, 30)}, want: answer{p: at(20, 20)}, none: answer{e: api.ErrArg}, moves: true},
		{name: "Fits", call: func(l []api.Point) answer { return answer{ok: pred.Fits(l...)} },
			l: []api.Point{at(0, 10), at(30, 0), at(40, 30), at(10, 40)}, want: answer{ok: true}},
	}
}

// quarter is x with all its points turned.
func (x asked) quarter() asked {
	x.l = each(x.l, turned)
	if x.moves {
		x.want.p = turned(x.want.p)
	}
	return x
}

// checkMoved asks with all points moved by as much: the answer is the same as before, or none if one of them does not fit.
func (x asked) checkMoved(t *testing.T, by api.Point) {
	t.Helper()
	l := each(x.l, func(p api.Point) api.Point { return plus(p, by) })
	want := x.want
	if x.moves {
		want.p = plus(want.p, by)
	}
	if !fits(l...) {
		want = x.none
	}
	kept := slices.Clone(l)
	got := x.call(l)
	if got != want {
		t.Errorf("%s%v = %v, want %v", x.name, l, got, want)
	}
	if again := x.call(l); again != got || !slices.Equal(l, kept) {
		t.Errorf("%s%v: another answer, or other points, the second time", x.name, kept)
	}
}

// Each argument in turn is at a bound, where the answer is still the same, and one step beyond it, where it is zero or ErrArg.
func TestEachArgumentAtTheBounds(t *testing.T) {
	for _, x := range everyCall() {
		alone := make([]bool, len(x.l))
		for range 4 {
			for i, p := range x.l {
				for _, n := range []int{bound, bound + 1, -bound, -bound - 1} {
					for _, by := range []api.Point{at(n-p.X, 0), at(0, n-p.Y), at(n-p.X, bound/2), at(-bound/2, n-p.Y)} {
						x.checkMoved(t, by)
						out := 0
						for _, q := range x.l {
							if !fits(plus(q, by)) {
								out++
							}
						}
						alone[i] = alone[i] || out == 1 && !fits(plus(p, by))
					}
				}
			}
			x = x.quarter()
		}
		if slices.Contains(alone, false) {
			t.Errorf("%s: an argument was never alone beyond the bounds: %v", x.name, alone)
		}
	}
}

// Points that do not fit at all: no difference of these may wrap round to an answer.
func TestWrongPoints(t *testing.T) {
	wrong := []int{bound + 1, -bound - 1, 1 << 33, 1 << 34, -1 << 40, 1 << 62, -1 << 62, math.MaxInt, math.MaxInt - 1, math.MinInt, math.MinInt + 1}
	for _, x := range everyCall() {
		for i, kept := range x.l {
			for _, n := range wrong {
				for _, p := range []api.Point{at(n, kept.Y), at(kept.X, n), at(n, n), at(n, -n)} {
					x.l[i] = p
					if got := x.call(x.l); got != x.none {
						t.Errorf("%s%v = %v, want %v", x.name, x.l, got, x.none)
					}
				}
			}
			x.l[i] = kept
		}
		for _, n := range wrong {
			x.checkMoved(t, at(n, 0))
			x.checkMoved(t, at(0, n))
			if all := each(x.l, func(api.Point) api.Point { return at(n, n) }); x.call(all) != x.none {
				t.Errorf("%s%v = %v, want %v", x.name, all, x.call(all), x.none)
			}
		}
	}
}

// P4: answers do not change with translation and with rotation by right angles.
func TestMovedAndTurned(t *testing.T) {
	for _, x := range everyCall() {
		for range 4 {
			for _, by := range []api.Point{at(0, 0), at(1, -1), at(-977, 12345), at(1<<31, -1<<31), at(bound/2+1, 3), at(100-bound, bound-100)} {
				x.checkMoved(t, by)
			}
			x = x.quarter()
		}
	}
	draws(20000, func(a, b, c, d api.Point) {
		moved := plus(at(-a.X/2, -a.Y/2), at(7, -5))
		l := []api.Point{a, b, c, d}
		o, ok := centre(exact(a), exact(b), exact(c))
		// A half is rounded up, so a turn may lead to another one of two centres that are equally near.
		checkAlike(t, l, turned, ok && !isHalf(o.x) && !isHalf(o.y))
		shift := func(p api.Point) api.Point { return plus(p, moved) }
		if fits(each(l, shift)...) {
			checkAlike(t, l, shift, true)
		}
	})
}

// checkAlike holds the answers for four points that fit against those for where f leads them; the rounded centre moves along if sure.
func checkAlike(t *testing.T, l []api.Point, f func(api.Point) api.Point, sure bool) {
	t.Helper()
	m := each(l, f)
	if pred.Orient(l[0], l[1], l[2]) != pred.Orient(m[0], m[1], m[2]) ||
		pred.InCircle(l[0], l[1], l[2], l[3]) != pred.InCircle(m[0], m[1], m[2], m[3]) ||
		pred.InDisc(l[0], l[1], l[2]) != pred.InDisc(m[0], m[1], m[2]) ||
		pred.Skinny(l[0], l[1], l[2]) != pred.Skinny(m[0], m[1], m[2]) ||
		pred.Convex(l...) != pred.Convex(m...) {
		t.Fatalf("%v and %v have other answers", l, m)
	}
	p, ok := pred.Middle(l[0], l[1])
	if q, okM := pred.Middle(m[0], m[1]); ok != okM || ok && q != f(p) {
		t.Fatalf("%v and %v have other midpoints: %v, %v", l, m, p, q)
	}
	p, e := pred.Centre(l[0], l[1], l[2])
	q, eM := pred.Centre(m[0], m[1], m[2])
	if (e == api.ErrArg) != (eM == api.ErrArg) || sure && e == api.OK && eM == api.OK && q != f(p) {
		t.Fatalf("%v and %v have other centres: %v, %d, %v, %d", l, m, p, e, q, eM)
	}
}

func isHalf(r *big.Rat) bool {
	return r.Denom().Cmp(big.NewInt(2)) == 0
}

// P4: the order of the points does not matter, but for the sign of Orient, which changes with the sign of the permutation.
func TestOrderOfPoints(t *testing.T) {
	draws(5000, func(a, b, c, d api.Point) {
		l := []api.Point{a, b, c}
		turn, inside, skinny := pred.Orient(a, b, c), pred.InCircle(a, b, c, d), pred.Skinny(a, b, c)
		o, e := pred.Centre(a, b, c)
		orders(3, func(order []int, sign int) {
			x, y, z := l[order[0]], l[order[1]], l[order[2]]
			if pred.Orient(x, y, z) != sign*turn || pred.InCircle(x, y, z, d) != inside || pred.Skinny(x, y, z) != skinny {
				t.Fatalf("%v, %v, %v, %v in another order than %v, %v, %v", x, y, z, d, a, b, c)
			}
			if p, f := pred.Centre(x, y, z); p != o || f != e {
				t.Fatalf("Centre(%v, %v, %v) = %v, %d, but in another order %v, %d", x, y, z, p, f, o, e)
			}
		})
		m, ok := pred.Middle(a, b)
		if n, okN := pred.Middle(b, a); m != n || ok != okN || pred.InDisc(a, b, c) != pred.InDisc(b, a, c) {
			t.Fatalf("%v, %v, %v: a and b exchanged", a, b, c)
		}
		if pred.Convex(a, b, c, d) != pred.Convex(b, c, d, a) || pred.Convex(a, b, c, d) != pred.Convex(d, a, b, c) {
			t.Fatalf("%v, %v, %v, %v: convex from one of them on only", a, b, c, d)
		}
	})
}

// P1: no call panics, whatever it is given.
func FuzzPoints(f *testing.F) {
	f.Add(0, 0, 4, 0, 0, 4, 3, 3)
	f.Add(-bound, -bound, bound, bound-1, bound-1, bound-2, bound, -bound)
	f.Add(bound, 4, bound, -4, bound-3, 2, 0, 0)
	f.Add(math.MinInt, math.MaxInt, 0, 0, bound+1, 1, -bound-1, 1<<62)
	f.Fuzz(func(t *testing.T, ax, ay, bx, by, cx, cy, dx, dy int) {
		check(t, at(ax, ay), at(bx, by), at(cx, cy), at(dx, dy))
		// Most numbers do not fit: the same ones, brought within the bounds.
		fold := func(n int) int { return n % (bound + 1) }
		check(t, at(fold(ax), fold(ay)), at(fold(bx), fold(by)), at(fold(cx), fold(cy)), at(fold(dx), fold(dy)))
	})
}
