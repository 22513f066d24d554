package meet_test

import (
	"math"
	"math/big"
	"math/rand/v2"
	"slices"
	"testing"

	"parquet/api"
	"parquet/meet"
)

// The calls that the chapter lists, with their exact signatures: a change of one does not compile.
var (
	_ func(api.Point, api.Point, api.Point) bool                        = meet.On
	_ func(api.Point, api.Point, api.Point) bool                        = meet.Inside
	_ func(api.Point, api.Point, api.Point, api.Point) (int, api.Errno) = meet.Segs
	_ func(...[2]api.Point) (int, int, bool)                            = meet.First
)

const bound = api.Bound

type segment = [2]api.Point

func at(x, y int) api.Point {
	return api.Point{X: x, Y: y}
}

// seg is the segment from (ax, ay) to (bx, by).
func seg(ax, ay, bx, by int) segment {
	return segment{at(ax, ay), at(bx, by)}
}

func plus(p, q api.Point) api.Point {
	return at(p.X+q.X, p.Y+q.Y)
}

// turned is p, a quarter turn to the left about the origin.
func turned(p api.Point) api.Point {
	return at(-p.Y, p.X)
}

func each(l []api.Point, f func(api.Point) api.Point) []api.Point {
	var out []api.Point
	for _, p := range l {
		out = append(out, f(p))
	}
	return out
}

func back(s segment) segment {
	return segment{s[1], s[0]}
}

func fits(l ...api.Point) bool {
	for _, p := range l {
		if max(p.X, p.Y) > bound || min(p.X, p.Y) < -bound {
			return false
		}
	}
	return true
}

func proper(s segment) bool {
	return fits(s[0], s[1]) && s[0] != s[1]
}

// What the chapter says, told another way: by going along the first segment, with fractions of any size.

func product(x, y int) *big.Int {
	return new(big.Int).Mul(big.NewInt(int64(x)), big.NewInt(int64(y)))
}

// across and ahead tell how far p is beside the line from a to b, and how far along it, times the length.
func across(a, b, p api.Point) *big.Int {
	n := product(b.X-a.X, p.Y-a.Y)
	return n.Sub(n, product(b.Y-a.Y, p.X-a.X))
}

func ahead(a, b, p api.Point) *big.Int {
	n := product(b.X-a.X, p.X-a.X)
	return n.Add(n, product(b.Y-a.Y, p.Y-a.Y))
}

func wantOn(a, b, p api.Point) bool {
	if !fits(p) || !proper(segment{a, b}) || across(a, b, p).Sign() != 0 {
		return false
	}
	n := ahead(a, b, p)
	return n.Sign() >= 0 && n.Cmp(ahead(a, b, b)) <= 0
}

func wantInside(a, b, p api.Point) bool {
	return wantOn(a, b, p) && p != a && p != b
}

// part is a piece of a segment: from one share of its length to another one, none if these are in the wrong order.
type part struct{ from, to *big.Rat }

func (p part) none() bool {
	return p.from.Cmp(p.to) > 0
}

// where keeps of p the shares at which the function that goes evenly from start to end is not below 0.
func (p part) where(start, end *big.Int) part {
	change := new(big.Int).Sub(end, start)
	if change.Sign() == 0 {
		if start.Sign() < 0 {
			return part{big.NewRat(1, 1), big.NewRat(0, 1)}
		}
		return p
	}
	zero := new(big.Rat).SetFrac(new(big.Int).Neg(start), change)
	if change.Sign() > 0 && zero.Cmp(p.from) > 0 {
		p.from = zero
	}
	if change.Sign() < 0 && zero.Cmp(p.to) < 0 {
		p.to = zero
	}
	return p
}

// shared is the part of s that is on t.
func shared(s, t segment) part {
	along := func(p api.Point) *big.Int { return ahead(t[0], t[1], p) }
	beside := func(p api.Point) *big.Int { return across(t[0], t[1], p) }
	minus := func(n *big.Int) *big.Int { return new(big.Int).Neg(n) }
	left := func(p api.Point) *big.Int { return new(big.Int).Sub(along(t[1]), along(p)) }
	all := part{big.NewRat(0, 1), big.NewRat(1, 1)}
	for _, f := range []func(api.Point) *big.Int{along, left, beside, func(p api.Point) *big.Int { return minus(beside(p)) }} {
		all = all.where(f(s[0]), f(s[1]))
	}
	return all
}

// isEnd tells whether a share is of one of the ends.
func isEnd(share *big.Rat) bool {
	return share.Sign() == 0 || share.Cmp(big.NewRat(1, 1)) == 0
}

func wantSegs(a, b, c, d api.Point) (int, api.Errno) {
	s, t := segment{a, b}, segment{c, d}
	if !proper(s) || !proper(t) {
		return 0, api.ErrArg
	}
	ofS, ofT := shared(s, t), shared(t, s)
	switch {
	case ofS.none():
		return api.MeetNone, api.OK
	case ofS.from.Cmp(ofS.to) != 0:
		return api.MeetOverlap, api.OK
	case isEnd(ofS.from) && isEnd(ofT.from):
		return api.MeetEnd, api.OK
	case isEnd(ofS.from) || isEnd(ofT.from):
		return api.MeetInside, api.OK
	default:
		return api.MeetCross, api.OK
	}
}

// more tells whether two segments have more in common than they may.
func more(s, t segment) bool {
	n, _ := wantSegs(s[0], s[1], t[0], t[1])
	return n == api.MeetInside || n == api.MeetCross || n == api.MeetOverlap
}

// wantFirst takes the least of all such pairs, whatever it comes upon first.
func wantFirst(l []segment) (int, int, bool) {
	i, k, found := 0, 0, false
	for y := range l {
		for x := range y {
			if more(l[x], l[y]) && (!found || x < i) {
				i, k, found = x, y, true
			}
		}
	}
	if slices.ContainsFunc(l, func(s segment) bool { return !proper(s) }) {
		return 0, 0, false
	}
	return i, k, found
}

// ways calls f with the two segments in both orders, and each from both ends.
func ways(s, t segment, f func(s, t segment)) {
	for range 2 {
		for range 2 {
			for range 2 {
				f(s, t)
				s = back(s)
			}
			t = back(t)
		}
		s, t = t, s
	}
}

// check holds all calls that take these points against what the chapter says.
func check(t *testing.T, a, b, c, d api.Point) {
	t.Helper()
	for _, p := range []api.Point{a, b, c, d} {
		if got, want := meet.On(a, b, p), wantOn(a, b, p); got != want {
			t.Fatalf("On(%v, %v, %v) = %v", a, b, p, got)
		}
		if got, want := meet.Inside(a, b, p), wantInside(a, b, p); got != want {
			t.Fatalf("Inside(%v, %v, %v) = %v", a, b, p, got)
		}
	}
	n, e := meet.Segs(a, b, c, d)
	if want, wantE := wantSegs(a, b, c, d); n != want || e != wantE {
		t.Fatalf("Segs(%v, %v, %v, %v) = %d, %d, want %d, %d", a, b, c, d, n, e, want, wantE)
	}
	checkFirst(t, segment{a, b}, segment{c, d})
}

func checkFirst(t *testing.T, l ...segment) {
	t.Helper()
	i, k, ok := meet.First(l...)
	if wantI, wantK, wantOk := wantFirst(l); i != wantI || k != wantK || ok != wantOk {
		t.Fatalf("First(%v) = %d, %d, %v, want %d, %d, %v", l, i, k, ok, wantI, wantK, wantOk)
	}
}

// draws calls f with points of several kinds, the same ones in each run; all of them fit.
func draws(n int, f func(a, b, c, d api.Point)) {
	r := rand.New(rand.NewPCG(9, 10))
	kinds := []func(*rand.Rand) [4]api.Point{edgy, cornered, touching, onLine, crossing, anywhere}
	within := func(n int) int { return min(max(n, -bound), bound) }
	for i := range n {
		l := kinds[i%len(kinds)](r)
		for k, p := range l {
			l[k] = at(within(p.X), within(p.Y))
		}
		f(l[0], l[1], l[2], l[3])
	}
}

// edgy points are at the bounds, near to them, or at lengths whose products just do or do not fit into 64 bits.
func edgy(r *rand.Rand) (l [4]api.Point) {
	n := []int{0, 1, 2, 1 << 30, 1 << 31, 1<<31 + 1, 3037000499, 3037000500, bound - 2, bound - 1, bound}
	one := func() int { return n[r.IntN(len(n))] * (1 - 2*r.IntN(2)) }
	for i := range l {
		l[i] = at(one(), one())
	}
	return l
}

// near are points that are all within some distance of the origin, whatever its order of magnitude.
func near(r *rand.Rand, bits int) (l [4]api.Point) {
	size := 1 << r.IntN(bits)
	for i := range l {
		l[i] = at(r.IntN(2*size+1)-size, r.IntN(2*size+1)-size)
	}
	return l
}

func anywhere(r *rand.Rand) [4]api.Point {
	return near(r, 33)
}

// cornered are points near to each other, but far from the origin.
func cornered(r *rand.Rand) [4]api.Point {
	l, corner := near(r, 5), edgy(r)[0]
	for i, p := range l {
		l[i] = plus(p, corner)
	}
	return l
}

// spread are points on one line, at shares of the same step from the first one.
func spread(r *rand.Rand) (l [4]api.Point) {
	from, step := near(r, 31)[0], near(r, 28)[1]
	for i := range l {
		n := r.IntN(9) - 2
		l[i] = plus(from, at(n*step.X, n*step.Y))
	}
	return l
}

// aside is p, or perhaps one of the grid points next to it.
func aside(r *rand.Rand, p api.Point) api.Point {
	if r.IntN(2) == 0 {
		return p
	}
	return plus(p, at(r.IntN(3)-1, r.IntN(3)-1))
}

func onLine(r *rand.Rand) [4]api.Point {
	l := spread(r)
	if r.IntN(4) == 0 {
		l[3] = aside(r, l[3])
	}
	return l
}

// touching has one end on the other segment, or next to it.
func touching(r *rand.Rand) [4]api.Point {
	l := spread(r)
	l[2] = aside(r, l[2])
	l[3] = near(r, 32)[3]
	return l
}

// crossing has its second segment go through a point of the first one, or next to it.
func crossing(r *rand.Rand) [4]api.Point {
	l, way, n := spread(r), near(r, 28)[0], r.IntN(4)-1
	middle := aside(r, l[2])
	return [4]api.Point{l[0], l[1], plus(middle, way), plus(middle, at(-n*way.X, -n*way.Y))}
}

func TestExamples(t *testing.T) {
	s := seg(0, 0, 4, 0)
	for _, x := range []struct {
		t    segment
		want int
	}{
		{seg(2, -1, 2, 1), api.MeetCross}, {seg(2, 0, 2, 1), api.MeetInside}, {seg(4, 0, 5, 5), api.MeetEnd},
		{seg(3, 0, 9, 0), api.MeetOverlap}, {seg(4, 0, 9, 0), api.MeetEnd},
	} {
		if n, e := meet.Segs(s[0], s[1], x.t[0], x.t[1]); n != x.want || e != api.OK {
			t.Errorf("with %v: %d, %d, want %d", x.t, n, e, x.want)
		}
	}
	// Of README.md.
	if meet.Inside(s[0], s[1], s[1]) || !meet.On(s[0], s[1], s[1]) {
		t.Error("an end is on it, and not inside")
	}
	if i, k, ok := meet.First(seg(4, 0, 2, 1), s, seg(2, -1, 2, 1)); i != 1 || k != 2 || !ok {
		t.Error("First", i, k, ok)
	}
}

// All places of four points on a small grid, in the middle and at the corners of what fits: same points and lines among them.
func TestSmallGrids(t *testing.T) {
	for _, x := range []struct {
		corner api.Point
		width  int
	}{
		{at(-1, -2), 4}, {at(bound-2, bound-2), 3}, {at(-bound, bound-2), 3}, {at(-bound, -bound), 3}, {at(bound-1, 1-bound), 3},
	} {
		var grid []api.Point
		for i := range x.width * x.width {
			grid = append(grid, plus(x.corner, at(i%x.width, i/x.width)))
		}
		for _, a := range grid {
			for _, b := range grid {
				for _, c := range grid {
					for _, d := range grid {
						check(t, a, b, c, d)
					}
				}
			}
		}
	}
}

// Points of any size, against fractions; of each answer there are many.
func TestAgainstFractions(t *testing.T) {
	seen := map[int]int{}
	draws(60000, func(a, b, c, d api.Point) {
		check(t, a, b, c, d)
		n, e := meet.Segs(a, b, c, d)
		seen[n-10*int(e)]++
	})
	for _, n := range []int{api.MeetNone, api.MeetEnd, api.MeetInside, api.MeetCross, api.MeetOverlap, -10 * int(api.ErrArg)} {
		if seen[n] < 300 {
			t.Errorf("of %d only %d were drawn", n, seen[n])
		}
	}
}

func TestOnAndInside(t *testing.T) {
	const b = bound
	for _, x := range []struct {
		a, b, p    api.Point
		on, inside bool
	}{
		// At a, at b, and between them.
		{at(0, 0), at(4, 2), at(0, 0), true, false}, {at(0, 0), at(4, 2), at(4, 2), true, false}, {at(0, 0), at(4, 2), at(2, 1), true, true},
		{at(0, 0), at(4, 0), at(1, 0), true, true}, {at(0, 0), at(4, 0), at(3, 0), true, true}, {at(0, 4), at(0, 0), at(0, 1), true, true}, {at(-3, 3), at(3, -3), at(-1, 1), true, true},
		// On the line, beyond an end: by a whole length, and by one step.
		{at(0, 0), at(4, 2), at(6, 3), false, false}, {at(0, 0), at(4, 2), at(-2, -1), false, false}, {at(0, 0), at(4, 2), at(8, 4), false, false},
		{at(0, 0), at(4, 0), at(5, 0), false, false}, {at(0, 0), at(4, 0), at(-1, 0), false, false}, {at(0, 0), at(0, 4), at(0, 5), false, false}, {at(0, 0), at(0, 4), at(0, -1), false, false},
		// Beside the line: over the segment, over an end, and as near as a grid point can be.
		{at(0, 0), at(4, 2), at(2, 2), false, false}, {at(0, 0), at(4, 0), at(2, 1), false, false}, {at(0, 0), at(4, 0), at(0, 1), false, false}, {at(0, 0), at(4, 0), at(4, -1), false, false},
		{at(-b, -b), at(b, b-1), at(0, 0), false, false}, {at(-b, -b), at(b, b-1), at(b-1, b-2), false, false}, {at(-b, -b), at(b-1, b), at(0, 0), false, false},
		// The longest segments.
		{at(-b, -b), at(b, b), at(0, 0), true, true}, {at(-b, -b), at(b, b), at(b-1, b-1), true, true}, {at(-b, b), at(b, -b), at(1-b, b-1), true, true}, {at(-b, -b), at(b, b), at(b, b), true, false},
		{at(-b, b), at(b, b), at(0, b), true, true}, {at(b, -b), at(b, b), at(b, b-1), true, true}, {at(-b, -b), at(b, 1-b), at(0, -b), false, false}, {at(-b, -b), at(b, 2-b), at(0, 1-b), true, true},
		// No other grid point between the ends.
		{at(0, 0), at(1, 1), at(1, 0), false, false}, {at(0, 0), at(3, 2), at(1, 1), false, false}, {at(0, 0), at(3, 2), at(2, 1), false, false}, {at(0, 0), at(1, 0), at(1, 0), true, false},
		// The ends are the same.
		{at(1, 1), at(1, 1), at(1, 1), false, false}, {at(1, 1), at(1, 1), at(2, 2), false, false}, {at(0, 0), at(0, 0), at(0, 0), false, false}, {at(-b, b), at(-b, b), at(-b, b), false, false}, {at(b, b), at(b, b), at(-b, -b), false, false},
	} {
		for range 2 {
			if got := meet.On(x.a, x.b, x.p); got != x.on {
				t.Errorf("On(%v, %v, %v) = %v", x.a, x.b, x.p, got)
			}
			if got := meet.Inside(x.a, x.b, x.p); got != x.inside {
				t.Errorf("Inside(%v, %v, %v) = %v", x.a, x.b, x.p, got)
			}
			x.a, x.b = x.b, x.a
		}
	}
}

// met is two segments, and what they have in common.
type met struct {
	s, t segment
	want int
}

// lines are segments on one line, from having all in common to having nothing.
func lines() []met {
	const b = bound
	return []met{
		{seg(0, 0, 4, 2), seg(0, 0, 4, 2), api.MeetOverlap}, {seg(0, 0, 4, 2), seg(4, 2, 0, 0), api.MeetOverlap}, {seg(0, 0, 1, 0), seg(1, 0, 0, 0), api.MeetOverlap},
		// One inside the other, with a common end and without.
		{seg(0, 0, 9, 0), seg(0, 0, 5, 0), api.MeetOverlap}, {seg(0, 0, 9, 0), seg(4, 0, 9, 0), api.MeetOverlap}, {seg(0, 0, 9, 0), seg(3, 0, 6, 0), api.MeetOverlap},
		{seg(0, 0, 0, 9), seg(0, 0, 0, 1), api.MeetOverlap}, {seg(-3, -6, 3, 6), seg(-2, -4, 1, 2), api.MeetOverlap}, {seg(0, 0, 2, 0), seg(0, 0, 1, 0), api.MeetOverlap},
		// A part of each.
		{seg(0, 0, 4, 0), seg(3, 0, 9, 0), api.MeetOverlap}, {seg(0, 0, 0, 4), seg(0, 3, 0, 9), api.MeetOverlap}, {seg(0, 0, 6, -3), seg(4, -2, 8, -4), api.MeetOverlap},
		// One end.
		{seg(0, 0, 4, 0), seg(4, 0, 9, 0), api.MeetEnd}, {seg(0, 0, 0, 4), seg(0, 4, 0, 5), api.MeetEnd}, {seg(0, 0, 6, -3), seg(6, -3, 8, -4), api.MeetEnd}, {seg(-4, -4, 0, 0), seg(1, 1, 0, 0), api.MeetEnd},
		// Nothing.
		{seg(0, 0, 4, 0), seg(5, 0, 9, 0), api.MeetNone}, {seg(0, 0, 0, 4), seg(0, 6, 0, 9), api.MeetNone}, {seg(0, 0, 6, -3), seg(8, -4, 20, -10), api.MeetNone}, {seg(-4, -4, 0, 0), seg(1, 1, 2, 2), api.MeetNone},
		// The longest.
		{seg(-b, -b, b, b), seg(-b, -b, b, b), api.MeetOverlap}, {seg(-b, -b, b, b), seg(b, b, b-1, b-1), api.MeetOverlap}, {seg(-b, b, b, -b), seg(0, 0, 1, -1), api.MeetOverlap},
		{seg(-b, b, 1, -1), seg(0, 0, b, -b), api.MeetOverlap}, {seg(-b, b, 0, 0), seg(0, 0, b, -b), api.MeetEnd}, {seg(-b, b, 0, 0), seg(1, -1, b, -b), api.MeetNone},
		{seg(-b, b, b, b), seg(0, b, b, b), api.MeetOverlap}, {seg(b, -b, b, 0), seg(b, 0, b, b), api.MeetEnd}, {seg(-b, -b, -b, 0), seg(-b, 1, -b, b), api.MeetNone},
	}
}

// angles are segments on two lines.
func angles() []met {
	const b = bound
	return []met{
		// Parallel: side by side, one behind the other, and as near as can be.
		{seg(0, 0, 4, 0), seg(0, 1, 4, 1), api.MeetNone}, {seg(0, 0, 4, 4), seg(1, 0, 5, 4), api.MeetNone}, {seg(0, 0, 4, 2), seg(5, 3, 9, 5), api.MeetNone}, {seg(0, 0, 4, 2), seg(1, 1, 3, 2), api.MeetNone},
		{seg(-b, -b, b-1, b), seg(1-b, -b, b, b), api.MeetNone}, {seg(-b, b, b, b), seg(-b, b-1, b, b-1), api.MeetNone}, {seg(-b, b, b, -b), seg(1-b, b, b, 1-b), api.MeetNone},
		// Crossing, on the grid and beside it, close to an end too.
		{seg(0, 0, 4, 0), seg(2, -1, 2, 1), api.MeetCross}, {seg(0, 0, 4, 4), seg(0, 4, 4, 0), api.MeetCross}, {seg(0, 0, 1, 1), seg(0, 1, 1, 0), api.MeetCross}, {seg(0, 0, 9, 1), seg(4, 1, 5, 0), api.MeetCross},
		{seg(0, 0, 9, 0), seg(1, -1, 1, 9), api.MeetCross}, {seg(0, 0, 3, 2), seg(0, 0, 3, 2), api.MeetOverlap}, {seg(0, 0, 3, 2), seg(1, 1, 2, 1), api.MeetCross}, {seg(0, 0, 2, 1), seg(1, 1, 1, 0), api.MeetCross},
		{seg(-b, -b, b, b), seg(-b, b, b, -b), api.MeetCross}, {seg(-b, -b, b, b), seg(b-1, b, b, b-1), api.MeetCross}, {seg(-b, -b, b, b-1), seg(-b, 1-b, b, b-2), api.MeetCross}, {seg(-b, 0, b, 1), seg(0, -b, 0, b), api.MeetCross},
		// An end inside.
		{seg(0, 0, 4, 0), seg(2, 0, 2, 1), api.MeetInside}, {seg(0, 0, 4, 0), seg(3, 5, 1, 0), api.MeetInside}, {seg(0, 0, 4, 2), seg(2, 1, 9, 9), api.MeetInside}, {seg(0, 0, 0, 4), seg(0, 3, -1, 3), api.MeetInside},
		{seg(-b, -b, b, b), seg(0, 0, b, -b), api.MeetInside}, {seg(-b, -b, b, b), seg(b-1, b-1, b, -b), api.MeetInside}, {seg(-b, b, b, b), seg(1-b, b, b, -b), api.MeetInside}, {seg(b, -b, b, b), seg(b, b-1, -b, b), api.MeetInside},
		// A common end, with any angle between.
		{seg(0, 0, 4, 0), seg(4, 0, 5, 5), api.MeetEnd}, {seg(0, 0, 4, 0), seg(4, 0, 0, 1), api.MeetEnd}, {seg(0, 0, 4, 0), seg(0, 0, 4, 1), api.MeetEnd}, {seg(0, 0, 4, 0), seg(0, 0, -9, -1), api.MeetEnd}, {seg(0, 0, 4, 0), seg(0, 0, 0, 7), api.MeetEnd},
		{seg(-b, -b, b, b), seg(b, b, -b, 1-b), api.MeetEnd}, {seg(-b, -b, b, b), seg(b, b, -b, b), api.MeetEnd}, {seg(-b, -b, b, b-1), seg(-b, -b, b-1, b-2), api.MeetEnd}, {seg(-b, b, b, b), seg(b, -b, b, b), api.MeetEnd},
		// They would cross, or touch, if one of them were longer, or both.
		{seg(0, 0, 4, 0), seg(5, -1, 5, 1), api.MeetNone}, {seg(0, 0, 4, 4), seg(0, 4, 1, 2), api.MeetNone}, {seg(0, 0, 4, 0), seg(2, 1, 2, 5), api.MeetNone}, {seg(0, 0, 4, 4), seg(0, 4, 1, 3), api.MeetNone},
		{seg(0, 0, 4, 0), seg(5, 1, 6, 3), api.MeetNone}, {seg(0, 0, 4, 0), seg(5, 0, 5, 1), api.MeetNone}, {seg(0, 0, 4, 4), seg(5, 5, 5, 0), api.MeetNone}, {seg(0, 0, 9, 9), seg(4, 5, 1, 7), api.MeetNone}, {seg(0, 0, 9, 9), seg(5, 4, 6, 4), api.MeetNone},
		{seg(-b, -b, b, b-1), seg(0, 0, -b, b), api.MeetNone}, {seg(-b, -b, b-1, b-1), seg(b, b, b, -b), api.MeetNone}, {seg(-b, -b, b, b), seg(b-1, b, 0, 1), api.MeetNone}, {seg(-b, -b, 0, 0), seg(1, 0, 0, 1), api.MeetNone},
		// Far from each other, to the side or upwards alone.
		{seg(-b, -b, -b, b), seg(b, -b, b, b), api.MeetNone}, {seg(-b, -b, b, -b), seg(b, b, -b, b), api.MeetNone}, {seg(0, 0, 1, 5), seg(2, 5, 3, 0), api.MeetNone}, {seg(0, 0, 5, 1), seg(5, 2, 0, 3), api.MeetNone},
	}
}

// The same for both orders of the segments, and from both ends of each, in four directions.
func TestSegs(t *testing.T) {
	for _, x := range append(lines(), angles()...) {
		for range 4 {
			ways(x.s, x.t, func(u, v segment) {
				if n, e := meet.Segs(u[0], u[1], v[0], v[1]); n != x.want || e != api.OK {
					t.Errorf("Segs(%v, %v) = %d, %d, want %d", u, v, n, e, x.want)
				}
				i, k, ok := meet.First(u, v)
				bad := x.want != api.MeetNone && x.want != api.MeetEnd
				if ok != bad || i != 0 || k == 1 != bad {
					t.Errorf("First(%v, %v) = %d, %d, %v", u, v, i, k, ok)
				}
			})
			x.s = segment(each(x.s[:], turned))
			x.t = segment(each(x.t[:], turned))
		}
	}
}

// A segment whose ends are the same, in either place, whatever the other one is.
func TestSegsOfNoSegment(t *testing.T) {
	for _, p := range []api.Point{at(0, 0), at(2, 0), at(4, 0), at(9, 9), at(bound, -bound), at(-bound, bound)} {
		for _, s := range []segment{seg(0, 0, 4, 0), seg(-bound, -bound, bound, bound), {p, p}, seg(0, 0, 0, 0), seg(7, 7, 7, 7), {p, at(5, 5)}} {
			ways(s, segment{p, p}, func(u, v segment) {
				if n, e := meet.Segs(u[0], u[1], v[0], v[1]); n != 0 || e != api.ErrArg {
					t.Errorf("Segs(%v, %v) = %d, %d", u, v, n, e)
				}
				if i, k, ok := meet.First(u, v); i != 0 || k != 0 || ok {
					t.Errorf("First(%v, %v) = %d, %d, %v", u, v, i, k, ok)
				}
			})
		}
	}
}

func TestFirst(t *testing.T) {
	base, up, over, inner, far := seg(0, 0, 4, 0), seg(4, 0, 4, 4), seg(2, 2, 6, 2), seg(3, 0, 3, 9), seg(50, 50, 60, 61)
	point, out, outer := seg(7, 7, 7, 7), seg(0, 0, bound+1, 0), seg(0, -1-bound, 0, 5)
	for _, x := range []struct {
		l    []segment
		i, k int
		ok   bool
	}{
		// None at all, one, and none that meet otherwise than they may.
		{nil, 0, 0, false}, {[]segment{}, 0, 0, false}, {[]segment{base}, 0, 0, false}, {[]segment{point}, 0, 0, false}, {[]segment{out}, 0, 0, false},
		{[]segment{base, up}, 0, 0, false}, {[]segment{base, far}, 0, 0, false}, {[]segment{base, up, far, seg(4, 4, 0, 0)}, 0, 0, false}, {[]segment{base, seg(4, 0, 9, 0), seg(0, 0, -3, 0)}, 0, 0, false},
		// One pair: at the front, at the back, across.
		{[]segment{base, inner, far}, 0, 1, true}, {[]segment{far, base, inner}, 1, 2, true}, {[]segment{base, far, inner}, 0, 2, true}, {[]segment{inner, up, far, base}, 0, 3, true},
		// Of each kind: an end inside, a crossing, an overlap, the same.
		{[]segment{far, base, seg(2, 0, 2, 5)}, 1, 2, true}, {[]segment{far, base, seg(2, -5, 2, 5)}, 1, 2, true}, {[]segment{far, base, seg(3, 0, 9, 0)}, 1, 2, true}, {[]segment{far, base, base}, 1, 2, true}, {[]segment{far, base, back(base)}, 1, 2, true},
		// Several pairs: the first one of the least index, whichever is met first in the list, then of the least second one.
		{[]segment{base, up, over, inner}, 0, 3, true}, {[]segment{up, over, inner}, 0, 1, true}, {[]segment{base, up, over, up, inner, inner}, 0, 4, true}, {[]segment{far, over, up, up, inner}, 1, 2, true},
		{[]segment{base, inner, over, inner}, 0, 1, true}, {[]segment{inner, far, over, base}, 0, 2, true}, {[]segment{inner, far, base, over}, 0, 2, true}, {[]segment{base, base, base}, 0, 1, true}, {[]segment{up, far, far, up}, 0, 3, true},
		// What is no segment, or does not fit, ahead of such a pair, between, and behind it.
		{[]segment{point, base, inner}, 0, 0, false}, {[]segment{base, point, inner}, 0, 0, false}, {[]segment{base, inner, point}, 0, 0, false}, {[]segment{base, inner, far, far, point}, 0, 0, false}, {[]segment{{}, base, inner}, 0, 0, false},
		{[]segment{out, base, inner}, 0, 0, false}, {[]segment{base, out, inner}, 0, 0, false}, {[]segment{base, inner, out}, 0, 0, false}, {[]segment{outer, base, inner}, 0, 0, false}, {[]segment{base, inner, back(outer)}, 0, 0, false},
		{[]segment{out, out}, 0, 0, false}, {[]segment{point, point}, 0, 0, false}, {[]segment{base, seg(math.MinInt, 0, math.MaxInt, 0)}, 0, 0, false}, {[]segment{base, inner, seg(0, math.MinInt, 0, math.MaxInt)}, 0, 0, false},
	} {
		if i, k, ok := meet.First(x.l...); i != x.i || k != x.k || ok != x.ok {
			t.Errorf("First(%v) = %d, %d, %v", x.l, i, k, ok)
		}
		checkFirst(t, x.l...)
		var turn []segment
		for _, s := range x.l {
			turn = append(turn, back(s))
		}
		checkFirst(t, turn...)
	}
}

// lists calls f with drawn lists of segments, the same ones in each run: many have no two that meet otherwise than they may.
func lists(n int, f func(r *rand.Rand, l []segment)) {
	r := rand.New(rand.NewPCG(11, 12))
	for i := range n {
		var l []segment
		for range r.IntN(9) {
			size := 4 + r.IntN(20)
			a := at(r.IntN(size), r.IntN(size))
			b := plus(a, at(r.IntN(7)-3, r.IntN(7)-3))
			if i%8 != 0 && a == b {
				b.X++
			}
			l = append(l, segment{a, b})
		}
		f(r, l)
	}
}

func TestFirstOfDrawnLists(t *testing.T) {
	found, clean := 0, 0
	lists(20000, func(_ *rand.Rand, l []segment) {
		checkFirst(t, l...)
		if _, _, ok := meet.First(l...); ok {
			found++
		} else if len(l) > 4 {
			clean++
		}
	})
	if found < 1000 || clean < 1000 {
		t.Error("too few lists of a kind", found, clean)
	}
}

// P1: a long list ends too, of segments that are far from each other, or all join at one end, or lie side by side; its last pair is found.
func TestFirstOfManySegments(t *testing.T) {
	for _, f := range []func(i int) segment{
		func(i int) segment { return seg(2*i, i%7, 2*i+1, -i%5) },
		func(i int) segment { return seg(0, 0, 1000, i) },
		func(i int) segment { return seg(i, 0, i+5000, 5000) },
		func(i int) segment { return seg(i, i*i, i+1, (i+1)*(i+1)) },
	} {
		var l []segment
		for i := range 3000 {
			l = append(l, f(i))
		}
		if i, k, ok := meet.First(l...); i != 0 || k != 0 || ok {
			t.Errorf("%v ..: %d, %d, %v", l[:2], i, k, ok)
		}
		last := l[len(l)-1]
		if i, k, ok := meet.First(append(l, back(last))...); i != len(l)-1 || k != len(l) || !ok {
			t.Errorf("%v .. with the last one twice: %d, %d, %v", l[:2], i, k, ok)
		}
		if i, k, ok := meet.First(append(l, segment{last[0], last[0]})...); i != 0 || k != 0 || ok {
			t.Errorf("%v .. with a point: %d, %d, %v", l[:2], i, k, ok)
		}
	}
}

// answer is what any of the calls answers.
type answer struct {
	n  int
	k  int
	ok bool
	e  api.Errno
}

// asked is a call with points for it, and what it answers: nothing that is what it answers for wrong points.
type asked struct {
	name string
	call func(l []api.Point) answer
	l    []api.Point
	want answer
	none answer
}

func everyCall() []asked {
	on := func(l []api.Point) answer { return answer{ok: meet.On(l[0], l[1], l[2])} }
	inside := func(l []api.Point) answer { return answer{ok: meet.Inside(l[0], l[1], l[2])} }
	segs := func(l []api.Point) answer { n, e := meet.Segs(l[0], l[1], l[2], l[3]); return answer{n: n, e: e} }
	first := func(l []api.Point) answer {
		i, k, ok := meet.First(segment{l[0], l[1]}, segment{l[2], l[3]})
		return answer{n: i, k: k, ok: ok}
	}
	wrong := answer{e: api.ErrArg}
	return []asked{
		{"On", on, []api.Point{at(0, 0), at(6, 3), at(2, 1)}, answer{ok: true}, answer{}},
		{"On", on, []api.Point{at(0, 0), at(6, 3), at(6, 3)}, answer{ok: true}, answer{}},
		{"On", on, []api.Point{at(0, 0), at(6, 3), at(0, 0)}, answer{ok: true}, answer{}},
		{"Inside", inside, []api.Point{at(0, 0), at(6, 3), at(2, 1)}, answer{ok: true}, answer{}},
		{"Segs", segs, []api.Point{at(0, 10), at(40, 30), at(30, 0), at(10, 40)}, answer{n: api.MeetCross}, wrong},
		{"Segs", segs, []api.Point{at(0, 0), at(6, 3), at(10, 5), at(4, 2)}, answer{n: api.MeetOverlap}, wrong},
		{"Segs", segs, []api.Point{at(0, 0), at(6, 3), at(2, 1), at(9, 9)}, answer{n: api.MeetInside}, wrong},
		{"Segs", segs, []api.Point{at(0, 0), at(6, 3), at(9, -2), at(0, 0)}, answer{n: api.MeetEnd}, wrong},
		{"Segs", segs, []api.Point{at(0, 0), at(6, 3), at(9, -2), at(-3, -4)}, answer{n: api.MeetNone}, wrong},
		{"Segs", segs, []api.Point{at(0, 0), at(6, 3), at(29, -2), at(23, -24)}, answer{n: api.MeetNone}, wrong},
		{"First", first, []api.Point{at(0, 10), at(40, 30), at(30, 0), at(10, 40)}, answer{k: 1, ok: true}, answer{}},
		{"First", first, []api.Point{at(0, 0), at(6, 3), at(10, 5), at(4, 2)}, answer{k: 1, ok: true}, answer{}},
	}
}

// quarter is x with all its points turned.
func (x asked) quarter() asked {
	x.l = each(x.l, turned)
	return x
}

// checkMoved asks with all points moved by as much: the answer is the same as before, or none if one of them does not fit.
func (x asked) checkMoved(t *testing.T, by api.Point) {
	t.Helper()
	l := each(x.l, func(p api.Point) api.Point { return plus(p, by) })
	want := x.want
	if !fits(l...) {
		want = x.none
	}
	if got := x.call(l); got != want {
		t.Errorf("%s%v = %v, want %v", x.name, l, got, want)
	}
	if again := x.call(l); again != want {
		t.Errorf("%s%v = %v the second time", x.name, l, again)
	}
}

// Each argument in turn is at a bound, where the answer is still the same, and one step beyond it, where it is 0, false or ErrArg.
func TestEachArgumentAtTheBounds(t *testing.T) {
	for _, x := range everyCall() {
		for range 4 {
			for _, p := range x.l {
				for _, n := range []int{bound, bound + 1, -bound, -bound - 1} {
					x.checkMoved(t, at(n-p.X, 0))
					x.checkMoved(t, at(0, n-p.Y))
					x.checkMoved(t, at(n-p.X, bound/2))
					x.checkMoved(t, at(-bound/2, n-p.Y))
				}
			}
			x = x.quarter()
		}
	}
}

// One argument alone is at a bound, or one step beyond: where the others would give an answer without it, and where it would itself fit in.
func TestOneArgumentAtTheBounds(t *testing.T) {
	const b = bound
	for _, s := range []segment{seg(0, 0, b, 0), seg(0, 0, -b, 0), seg(0, 0, 0, b), seg(0, 0, 0, -b), seg(0, 0, b, b), seg(0, 0, b, -b), seg(0, 0, -b, b), seg(0, 0, -b, -b)} {
		unit := at(s[1].X/b, s[1].Y/b)
		beyond := plus(s[1], unit)
		cross := segment{turned(unit), plus(plus(unit, unit), turned(at(-unit.X, -unit.Y)))}
		if !meet.On(s[0], s[1], unit) || !meet.On(s[1], s[0], s[1]) || !meet.Inside(s[1], s[0], unit) || meet.Inside(s[0], s[1], s[1]) {
			t.Errorf("On, Inside %v", s)
		}
		if meet.On(s[0], beyond, unit) || meet.On(beyond, s[0], unit) || meet.On(s[0], s[1], beyond) || meet.On(s[0], beyond, beyond) || meet.On(beyond, s[0], s[0]) || meet.On(beyond, beyond, beyond) {
			t.Errorf("On: %v does not fit", beyond)
		}
		if meet.Inside(s[0], beyond, unit) || meet.Inside(beyond, s[0], s[1]) || meet.Inside(s[0], s[1], beyond) || meet.Inside(s[0], plus(beyond, unit), beyond) {
			t.Errorf("Inside: %v does not fit", beyond)
		}
		ways(s, cross, func(u, v segment) {
			if n, e := meet.Segs(u[0], u[1], v[0], v[1]); n != api.MeetCross || e != api.OK {
				t.Errorf("Segs(%v, %v) = %d, %d", u, v, n, e)
			}
		})
		for _, other := range []segment{cross, s, {unit, s[0]}, {s[0], turned(unit)}, {beyond, s[1]}, {beyond, beyond}} {
			ways(segment{s[0], beyond}, other, func(u, v segment) {
				if n, e := meet.Segs(u[0], u[1], v[0], v[1]); n != 0 || e != api.ErrArg {
					t.Errorf("Segs(%v, %v) = %d, %d", u, v, n, e)
				}
				if i, k, ok := meet.First(u, v); i != 0 || k != 0 || ok {
					t.Errorf("First(%v, %v) = %d, %d, %v", u, v, i, k, ok)
				}
			})
		}
	}
}

// Points that do not fit at all: no difference of these may wrap round to an answer.
func TestWrongPoints(t *testing.T) {
	wrong := []int{bound + 1, -bound - 1, 1 << 33, 1 << 34, -1 << 40, 1 << 62, -1 << 62, math.MaxInt, math.MaxInt - 1, math.MinInt, math.MinInt + 1}
	for _, x := range everyCall() {
		for i, kept := range x.l {
			for _, n := range wrong {
				for _, p := range []api.Point{at(n, kept.Y), at(kept.X, n), at(n, n), at(n, -n)} {
					x.l[i] = p
					if got := x.call(x.l); got != x.none {
						t.Errorf("%s%v = %v, want %v", x.name, x.l, got, x.none)
					}
				}
			}
			x.l[i] = kept
		}
		for _, n := range wrong {
			x.checkMoved(t, at(n, 0))
			x.checkMoved(t, at(0, n))
			x.checkMoved(t, at(n, n))
		}
	}
}

// P4: answers do not change with translation and with rotation by right angles.
func TestMovedAndTurned(t *testing.T) {
	for _, x := range everyCall() {
		for range 4 {
			for _, by := range []api.Point{at(0, 0), at(1, -1), at(-977, 12345), at(1<<31, -1<<31), at(bound/2+1, 3), at(100-bound, bound-100)} {
				x.checkMoved(t, by)
			}
			x = x.quarter()
		}
	}
	draws(30000, func(a, b, c, d api.Point) {
		l := []api.Point{a, b, c, d}
		checkAlike(t, l, each(l, turned))
		by := plus(at(-a.X/2, -a.Y/2), at(7, -5))
		if moved := each(l, func(p api.Point) api.Point { return plus(p, by) }); fits(moved...) {
			checkAlike(t, l, moved)
		}
	})
}

// checkAlike holds the answers for four points against those for where they were led.
func checkAlike(t *testing.T, l, m []api.Point) {
	t.Helper()
	n, e := meet.Segs(l[0], l[1], l[2], l[3])
	n2, e2 := meet.Segs(m[0], m[1], m[2], m[3])
	i, k, ok := meet.First(segment{l[0], l[1]}, segment{l[2], l[3]})
	i2, k2, ok2 := meet.First(segment{m[0], m[1]}, segment{m[2], m[3]})
	if n != n2 || e != e2 || i != i2 || k != k2 || ok != ok2 ||
		meet.On(l[0], l[1], l[2]) != meet.On(m[0], m[1], m[2]) || meet.Inside(l[0], l[1], l[2]) != meet.Inside(m[0], m[1], m[2]) {
		t.Fatalf("%v and %v have other answers", l, m)
	}
}

// P4: answers do not change with the order of the segments, nor with their direction.
func TestOrderAndDirection(t *testing.T) {
	draws(30000, func(a, b, c, d api.Point) {
		want, wantE := meet.Segs(a, b, c, d)
		ways(segment{a, b}, segment{c, d}, func(u, v segment) {
			if n, e := meet.Segs(u[0], u[1], v[0], v[1]); n != want || e != wantE {
				t.Fatalf("Segs(%v, %v) = %d, %d, but %d, %d the other way", u, v, n, e, want, wantE)
			}
		})
		if meet.On(a, b, c) != meet.On(b, a, c) || meet.Inside(a, b, c) != meet.Inside(b, a, c) {
			t.Fatalf("On or Inside of %v, %v, %v is another one the other way", a, b, c)
		}
	})
}

// P4: with other numbers for the segments, the same ones meet.
func TestOtherNumbers(t *testing.T) {
	lists(5000, func(r *rand.Rand, l []segment) {
		_, _, ok := meet.First(l...)
		m := slices.Clone(l)
		r.Shuffle(len(m), func(i, k int) { m[i], m[k] = m[k], back(m[i]) })
		i, k, again := meet.First(m...)
		if again != ok || ok && !more(m[i], m[k]) {
			t.Fatalf("First(%v) = %d, %d, %v, but %v for %v", m, i, k, again, ok, l)
		}
		checkFirst(t, m...)
	})
}

// R2 and R4: what is handed in stays as it is, with what lies behind it, and a call made again answers the same.
func TestArgumentsStay(t *testing.T) {
	lists(2000, func(_ *rand.Rand, l []segment) {
		room := append(slices.Clone(l), seg(1, 2, 3, 4), seg(5, 6, 7, 8))
		kept := slices.Clone(room)
		i, k, ok := meet.First(room[:len(l)]...)
		if !slices.Equal(room, kept) {
			t.Fatalf("First(%v) changed what it was given: %v", kept[:len(l)], room)
		}
		if i2, k2, ok2 := meet.First(room[:len(l)]...); i2 != i || k2 != k || ok2 != ok {
			t.Fatalf("First(%v) = %d, %d, %v, then %d, %d, %v", l, i, k, ok, i2, k2, ok2)
		}
	})
}

func FuzzSegments(f *testing.F) {
	f.Add(0, 0, 4, 0, 2, -1, 2, 1)
	f.Add(0, 0, 4, 2, 2, 1, 6, 3)
	f.Add(-bound, -bound, bound, bound, bound, bound, bound+1, 0)
	f.Add(math.MinInt, 0, math.MaxInt, 0, 0, math.MinInt, 0, math.MaxInt)
	f.Fuzz(func(t *testing.T, ax, ay, bx, by, cx, cy, dx, dy int) {
		check(t, at(ax, ay), at(bx, by), at(cx, cy), at(dx, dy))
	})
}
