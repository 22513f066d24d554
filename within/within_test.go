package within_test

import (
	"math"
	"math/big"
	"math/rand/v2"
	"slices"
	"testing"

	"parquet/api"
	"parquet/within"
)

// The calls that the chapter lists, with their exact signatures: a change of one does not compile.
var (
	_ func([]api.Point, []api.Seg, api.Point) (int, api.Errno)     = within.At
	_ func([]api.Point, []api.Seg, int, int) (int, api.Errno)      = within.Halfway
	_ func([]api.Point, []api.Seg, int, int, int) (int, api.Errno) = within.Third
	_ func([]api.Point, [][]int) ([]int, api.Errno)                = within.Deep
)

const (
	bound = api.Bound
	out   = api.Outside
	rim   = api.Rim
	in    = api.Within
)

func at(x, y int) api.Point {
	return api.Point{X: x, Y: y}
}

func points(xy ...int) []api.Point {
	var p []api.Point
	for i := 0; i < len(xy); i += 2 {
		p = append(p, at(xy[i], xy[i+1]))
	}
	return p
}

func plus(p, q api.Point) api.Point {
	return at(p.X+q.X, p.Y+q.Y)
}

// turned is p, a quarter turn to the left about the origin.
func turned(p api.Point) api.Point {
	return at(-p.Y, p.X)
}

func each(p []api.Point, f func(api.Point) api.Point) []api.Point {
	var out []api.Point
	for _, q := range p {
		out = append(out, f(q))
	}
	return out
}

func seg(a, b int) api.Seg {
	return api.Seg{A: a, B: b}
}

// segs has a segment for each two numbers.
func segs(ends ...int) []api.Seg {
	var l []api.Seg
	for i := 0; i < len(ends); i += 2 {
		l = append(l, seg(ends[i], ends[i+1]))
	}
	return l
}

// around has the segments of these rings.
func around(rings ...[]int) []api.Seg {
	var l []api.Seg
	for _, ring := range rings {
		for i := 1; i < len(ring); i++ {
			l = append(l, seg(ring[i-1], ring[i]))
		}
		if len(ring) > 0 {
			l = append(l, seg(ring[len(ring)-1], ring[0]))
		}
	}
	return l
}

// rising has the numbers from to until - 1.
func rising(from, until int) []int {
	var l []int
	for i := from; i < until; i++ {
		l = append(l, i)
	}
	return l
}

// shuffled has the same segments in another order, some of them the other way round.
func shuffled(r *rand.Rand, l []api.Seg) []api.Seg {
	l = slices.Clone(l)
	r.Shuffle(len(l), func(i, k int) { l[i], l[k] = l[k], l[i] })
	for i := range l {
		if r.IntN(2) == 0 {
			l[i] = seg(l[i].B, l[i].A)
		}
	}
	return l
}

// What the chapter says, told another way: on the given grid, with fractions for the means and for the places where segments are at some height.

type place struct{ x, y *big.Rat }

func whole(n int) *big.Rat {
	return new(big.Rat).SetInt64(int64(n))
}

func placeOf(p api.Point) place {
	return place{whole(p.X), whole(p.Y)}
}

// meanOf is the mean of some points.
func meanOf(l ...api.Point) place {
	m := place{new(big.Rat), new(big.Rat)}
	for _, p := range l {
		m.x.Add(m.x, whole(p.X))
		m.y.Add(m.y, whole(p.Y))
	}
	share := big.NewRat(1, int64(len(l)))
	return place{m.x.Mul(m.x, share), m.y.Mul(m.y, share)}
}

// between tells whether n is one of a and b, or between them.
func between(a, b int, n *big.Rat) bool {
	return n.Cmp(whole(min(a, b))) >= 0 && n.Cmp(whole(max(a, b))) <= 0
}

// beside compares the X at which the segment from a to b, which is not level, has the height of q, with that of q.
func beside(a, b api.Point, q place) int {
	x := new(big.Rat).Sub(q.y, whole(a.Y))
	x.Mul(x, new(big.Rat).Sub(whole(b.X), whole(a.X)))
	x.Quo(x, new(big.Rat).Sub(whole(b.Y), whole(a.Y)))
	return x.Add(x, whole(a.X)).Cmp(q.x)
}

func on(a, b api.Point, q place) bool {
	if !between(a.X, b.X, q.x) || !between(a.Y, b.Y, q.y) {
		return false
	}
	return a.Y == b.Y || beside(a, b, q) == 0
}

// crossings is how many segments are to the right of q, or to its left, by the sign of side; or false if q is on one.
func crossings(p []api.Point, l []api.Seg, q place, side int) (int, bool) {
	n := 0
	for _, s := range l {
		a, b := p[s.A], p[s.B]
		if on(a, b, q) {
			return 0, false
		}
		higher := 0
		for _, end := range []api.Point{a, b} {
			if whole(end.Y).Cmp(q.y) > 0 {
				higher++
			}
		}
		if higher == 1 && beside(a, b, q) == side {
			n++
		}
	}
	return n, true
}

func wantPlace(p []api.Point, l []api.Seg, q place) int {
	n, ok := crossings(p, l, q, 1)
	switch {
	case !ok:
		return rim
	case n%2 == 1:
		return in
	default:
		return out
	}
}

// fits tells whether the point fits when it is so many times as far from the origin.
func fits(p api.Point, times int64) bool {
	most := big.NewInt(4294967296)
	for _, n := range []int{p.X, p.Y} {
		if new(big.Int).Mul(big.NewInt(int64(n)), big.NewInt(times)).CmpAbs(most) > 0 {
			return false
		}
	}
	return true
}

// segmentsFit tells whether l are segments between different points, which fit when they are so many times as far from the origin.
func segmentsFit(p []api.Point, l []api.Seg, times int64) bool {
	for _, s := range l {
		for _, i := range []int{s.A, s.B} {
			if i < 0 || i >= len(p) || !fits(p[i], times) {
				return false
			}
		}
		if p[s.A] == p[s.B] {
			return false
		}
	}
	return true
}

func wantAt(p []api.Point, l []api.Seg, q api.Point) (int, api.Errno) {
	if !fits(q, 1) || !segmentsFit(p, l, 1) {
		return 0, api.ErrArg
	}
	return wantPlace(p, l, placeOf(q)), api.OK
}

func wantMean(p []api.Point, l []api.Seg, indexes ...int) (int, api.Errno) {
	x, y := 0, 0
	var of []api.Point
	for _, i := range indexes {
		if i < 0 || i >= len(p) || !fits(p[i], 1) {
			return 0, api.ErrArg
		}
		of, x, y = append(of, p[i]), x+p[i].X, y+p[i].Y
	}
	if !fits(at(x, y), 1) || !segmentsFit(p, l, int64(len(indexes))) {
		return 0, api.ErrArg
	}
	return wantPlace(p, l, meanOf(of...)), api.OK
}

func wantDeep(p []api.Point, rings [][]int) ([]int, api.Errno) {
	var depths []int
	for _, ring := range rings {
		if len(ring) == 0 || !segmentsFit(p, around(ring), 1) {
			return nil, api.ErrArg
		}
	}
	for i, ring := range rings {
		n := 0
		for k, other := range rings {
			if k != i && wantPlace(p, around(other), placeOf(p[ring[0]])) == in {
				n++
			}
		}
		depths = append(depths, n)
	}
	return depths, api.OK
}

// unchanged calls f, which is to leave p and l as they are.
func unchanged(t *testing.T, p []api.Point, l []api.Seg, f func()) {
	t.Helper()
	keptP, keptL := slices.Clone(p), slices.Clone(l)
	f()
	if !slices.Equal(p, keptP) || !slices.Equal(l, keptL) {
		t.Fatalf("%v, %v were changed to %v, %v", keptP, keptL, p, l)
	}
}

// checkAt wants exactly this answer, and the arguments to stay as they are.
func checkAt(t *testing.T, p []api.Point, l []api.Seg, q api.Point, want int, e api.Errno) {
	t.Helper()
	unchanged(t, p, l, func() {
		if got, gotE := within.At(p, l, q); got != want || gotE != e {
			t.Fatalf("At(%v, %v, %v) = %d, %d, want %d, %d", p, l, q, got, gotE, want, e)
		}
	})
}

// checkHalfway wants this answer for a and b in both orders.
func checkHalfway(t *testing.T, p []api.Point, l []api.Seg, a, b int, want int, e api.Errno) {
	t.Helper()
	unchanged(t, p, l, func() {
		for range 2 {
			if got, gotE := within.Halfway(p, l, a, b); got != want || gotE != e {
				t.Fatalf("Halfway(%v, %v, %d, %d) = %d, %d, want %d, %d", p, l, a, b, got, gotE, want, e)
			}
			a, b = b, a
		}
	})
}

// checkThird wants this answer for a, b and c in all orders.
func checkThird(t *testing.T, p []api.Point, l []api.Seg, a, b, c int, want int, e api.Errno) {
	t.Helper()
	unchanged(t, p, l, func() {
		for range 2 {
			for range 3 {
				if got, gotE := within.Third(p, l, a, b, c); got != want || gotE != e {
					t.Fatalf("Third(%v, %v, %d, %d, %d) = %d, %d, want %d, %d", p, l, a, b, c, got, gotE, want, e)
				}
				a, b, c = b, c, a
			}
			a, b = b, a
		}
	})
}

func checkDeep(t *testing.T, p []api.Point, rings [][]int, want []int, e api.Errno) {
	t.Helper()
	var kept [][]int
	for _, ring := range rings {
		kept = append(kept, slices.Clone(ring))
	}
	unchanged(t, p, nil, func() {
		if got, gotE := within.Deep(p, rings); !slices.Equal(got, want) || gotE != e {
			t.Fatalf("Deep(%v, %v) = %v, %d, want %v, %d", p, rings, got, gotE, want, e)
		}
	})
	if !slices.EqualFunc(rings, kept, slices.Equal) {
		t.Fatalf("%v was changed to %v", kept, rings)
	}
}

// check, checkMeans and checkDepths hold the calls against what the chapter says.
func check(t *testing.T, p []api.Point, l []api.Seg, q api.Point) {
	t.Helper()
	want, e := wantAt(p, l, q)
	checkAt(t, p, l, q, want, e)
}

func checkMeans(t *testing.T, p []api.Point, l []api.Seg, a, b, c int) {
	t.Helper()
	want, e := wantMean(p, l, a, b)
	checkHalfway(t, p, l, a, b, want, e)
	want, e = wantMean(p, l, a, b, c)
	checkThird(t, p, l, a, b, c, want, e)
}

func checkDepths(t *testing.T, p []api.Point, rings [][]int) {
	t.Helper()
	want, e := wantDeep(p, rings)
	checkDeep(t, p, rings, want, e)
}

func TestExamples(t *testing.T) {
	p := points(0, 0, 4, 0, 4, 4, 0, 4)
	l := around(rising(0, 4))
	checkAt(t, p, l, at(1, 1), in, api.OK)
	checkAt(t, p, l, at(4, 2), rim, api.OK)
	checkAt(t, p, l, at(5, 2), out, api.OK)
	checkHalfway(t, p, l, 0, 2, in, api.OK)
	checkHalfway(t, p, l, 0, 1, rim, api.OK)
	// Of README.md.
	p = points(0, 0, 6, 0, 0, 6, 1, 1, 2, 1, 1, 2)
	l = segs(0, 1, 1, 2, 2, 0)
	checkAt(t, p, l, at(3, 3), rim, api.OK)
	checkHalfway(t, p, l, 1, 3, in, api.OK)
	checkThird(t, p, l, 0, 1, 2, in, api.OK)
	checkDeep(t, p, [][]int{{0, 1, 2}, {3, 4, 5}}, []int{0, 1}, api.OK)
}

// shape is a list of segments, and what is known of some points.
type shape struct {
	name string
	p    []api.Point
	l    []api.Seg
	q    []api.Point
	want []int
}

func shapes() []shape {
	square := points(0, 0, 4, 0, 4, 4, 0, 4)
	diamond := points(0, -4, 4, 0, 0, 4, -4, 0)
	return []shape{
		{"nothing", nil, nil, points(0, 0, 5, -5, bound, bound), []int{out, out, out}},
		{"points alone", square, nil, points(0, 0, 2, 2), []int{out, out}},
		{"square", square, around(rising(0, 4)), points(1, 1, 2, 2, 3, 1, 1, 3, -1, 2, 5, 2, 2, -1, 2, 5, -1, -1, 5, 5), []int{in, in, in, in, out, out, out, out, out, out}},
		{"square's rim", square, around(rising(0, 4)), points(0, 0, 4, 0, 4, 4, 0, 4, 2, 0, 4, 2, 2, 4, 0, 2), []int{rim, rim, rim, rim, rim, rim, rim, rim}},
		// At the heights of level sides and of corners, to the left of them and to the right.
		{"square's heights", square, around(rising(0, 4)), points(-1, 0, -1, 4, 5, 0, 5, 4, -9, 0, 9, 4), []int{out, out, out, out, out, out}},
		{"diamond", diamond, around(rising(0, 4)), points(0, 0, -3, 0, 3, 0, -5, 0, 5, 0, -1, -4, 1, -4, -1, 4, 1, 4, -9, 4, -4, 0, 2, 2, 3, 2, 1, 2), []int{in, in, in, out, out, out, out, out, out, out, rim, rim, out, in}},
		// A peak, a valley, a step and a level side within, each at the height of the point.
		{"peak", points(0, 0, 8, 0, 8, 6, 6, 6, 4, 3, 2, 6, 0, 6), around(rising(0, 7)), points(1, 3, 3, 3, 4, 3, 5, 3, 7, 3, -1, 3, 9, 3, 4, 4, 1, 6, 4, 6, 7, 6, 9, 6, -1, 6, 4, 2), []int{in, in, rim, in, in, out, out, out, rim, out, rim, out, out, in}},
		{"valley", points(0, 6, 0, 0, 2, 0, 4, 3, 6, 0, 8, 0, 8, 6), around(rising(0, 7)), points(1, 3, 3, 3, 4, 3, 5, 3, 4, 2, -1, 0, 4, 0, 9, 0, 1, 0, 4, 4, 3, 0), []int{in, in, rim, in, out, out, out, out, rim, in, out}},
		{"step", points(0, 0, 6, 0, 6, 2, 4, 2, 4, 4, 0, 4), around(rising(0, 6)), points(1, 2, 3, 2, 4, 2, 5, 2, 6, 2, 7, 2, 5, 3, 3, 3, -1, 2, 5, 1), []int{in, in, rim, rim, rim, out, out, in, out, in}},
		{"step to the left", points(0, 0, 6, 0, 6, 4, 2, 4, 2, 2, 0, 2), around(rising(0, 6)), points(-1, 2, 1, 2, 2, 2, 3, 2, 5, 2, 1, 3, 1, 1, 7, 2), []int{out, rim, rim, in, in, out, in, out}},
		{"spike", points(0, 0, 9, 0, 9, 1, 3, 1, 3, 2, 9, 2, 9, 3, 0, 3), around(rising(0, 8)), points(1, 1, 2, 2, 3, 1, 6, 1, 4, 2, 10, 1, -1, 1, -1, 2), []int{in, in, rim, rim, rim, out, out, out}},
		// Loops one in another, beside each other, over each other, and the same one twice.
		{"hole", append(square, points(1, 1, 3, 1, 3, 3, 1, 3)...), around(rising(0, 4), rising(4, 8)), points(2, 2, 1, 2, 3, 2, 3, 3, 4, 3, 0, 3, -1, 3, -1, 1), []int{out, rim, rim, rim, rim, rim, out, out}},
		{"two squares", append(square, points(6, 0, 8, 0, 8, 4, 6, 4)...), around(rising(0, 4), rising(4, 8)), points(2, 2, 5, 2, 7, 2, 9, 2, 5, 0, 5, 4, -1, 2, -1, 4), []int{in, out, in, out, out, out, out, out}},
		{"two over each other", append(square, points(2, 2, 6, 2, 6, 6, 2, 6)...), around(rising(0, 4), rising(4, 8)), points(1, 1, 3, 3, 5, 5, 3, 1, 1, 3, 5, 3, 3, 5, 4, 3, 3, 4, 3, 2, 0, 5, 5, 1), []int{in, out, in, in, in, in, in, rim, rim, rim, out, out}},
		{"twice", square, around(rising(0, 4), rising(0, 4)), points(1, 1, 4, 2, 5, 2), []int{out, rim, out}},
		{"thrice", square, around(rising(0, 4), []int{3, 2, 1, 0}, rising(0, 4)), points(1, 1, 4, 2, 5, 2), []int{in, rim, out}},
		{"bow tie", square, around([]int{0, 1, 3, 2}), points(2, 1, 2, 3, 1, 2, 3, 2, 2, 2, 4, 2, 0, 2, -1, 2), []int{in, in, out, out, rim, out, out, out}},
		// What is no loop counts as the chapter says.
		{"one segment", points(3, 0, 5, 4), segs(0, 1), points(0, 0, 0, 3, 0, 4, 4, 2, 3, 0, 5, 4, 4, 3, 5, 2, 9, 1, 0, -1, 2, 0, 3, 2, 4, 4), []int{in, in, out, rim, rim, rim, in, out, out, out, in, in, out}},
		{"one level segment", points(3, 2, 7, 2), segs(0, 1), points(0, 2, 3, 2, 5, 2, 7, 2, 9, 2, 5, 1, 5, 3), []int{out, rim, rim, rim, out, out, out}},
		{"to and fro", points(3, 0, 5, 4), segs(0, 1, 1, 0), points(0, 0, 0, 3, 4, 2, 9, 1), []int{out, out, rim, out}},
	}
}

func TestShapes(t *testing.T) {
	r := rand.New(rand.NewPCG(9, 1))
	for _, x := range shapes() {
		for i, q := range x.q {
			for range 4 {
				if got, e := within.At(x.p, shuffled(r, x.l), q); got != x.want[i] || e != api.OK {
					t.Errorf("%s: At %v = %d, %d, want %d", x.name, q, got, e, x.want[i])
				}
			}
			check(t, x.p, x.l, q)
			// The same point as the mean of others, at whatever distance.
			p := append(slices.Clone(x.p), q, plus(q, at(3, -5)), plus(q, at(-3, 5)), plus(q, at(1, 7)), plus(q, at(-1, -7)), plus(q, at(-2, -2)))
			k := len(x.p)
			if q.X == bound {
				continue
			}
			checkHalfway(t, p, x.l, k, k, x.want[i], api.OK)
			checkHalfway(t, p, x.l, k+1, k+2, x.want[i], api.OK)
			checkThird(t, p, x.l, k, k, k, x.want[i], api.OK)
			checkThird(t, p, x.l, k, k+3, k+4, x.want[i], api.OK)
			checkThird(t, p, x.l, k+2, k+1, k, x.want[i], api.OK)
		}
	}
}

// Means that are no grid points: at halves and thirds, as near to a segment as they can be.
func TestMeansBetweenGridPoints(t *testing.T) {
	// A square of a single cell, its corners, and points around it.
	p := points(0, 0, 1, 0, 1, 1, 0, 1, -1, 0, 2, 1, 0, -1, 2, 0, 1, 2, -1, -1)
	l := around(rising(0, 4))
	for _, x := range []struct{ a, b, want int }{
		{0, 2, in}, {1, 3, in}, {0, 1, rim}, {1, 2, rim}, {2, 3, rim}, {3, 0, rim}, {0, 0, rim}, {4, 0, out}, {4, 1, rim}, {4, 5, in}, {1, 5, out}, {5, 5, out}, {6, 2, rim}, {6, 3, rim}, {6, 8, in}, {7, 3, rim}, {9, 2, rim}, {9, 1, out}, {4, 2, rim},
	} {
		checkHalfway(t, p, l, x.a, x.b, x.want, api.OK)
	}
	for _, x := range []struct{ a, b, c, want int }{
		{0, 1, 2, in}, {1, 2, 3, in}, {0, 1, 3, in}, {0, 0, 1, rim}, {0, 1, 1, rim}, {2, 2, 3, rim}, {0, 0, 2, in}, {0, 2, 2, in}, {0, 4, 3, out}, {4, 1, 3, rim}, {4, 0, 0, out}, {1, 5, 0, rim}, {2, 5, 0, rim}, {5, 3, 0, in}, {6, 1, 0, out}, {6, 1, 2, rim}, {6, 2, 3, in}, {8, 8, 8, out}, {7, 7, 4, rim}, {4, 4, 5, rim}, {5, 5, 4, rim}, {9, 8, 0, rim}, {6, 6, 2, out}, {4, 4, 3, out}, {5, 2, 2, out}, {5, 5, 5, out},
	} {
		checkThird(t, p, l, x.a, x.b, x.c, x.want, api.OK)
		checkMeans(t, p, l, x.a, x.b, x.c)
	}
	// A thin triangle, whose points inside are all between those of the grid.
	p = points(0, 0, 1000, 1, 2000, 3, 1001, 1, 1001, 2, 999, 2)
	l = segs(0, 1, 1, 2, 2, 0)
	checkThird(t, p, l, 0, 1, 2, in, api.OK)
	checkHalfway(t, p, l, 0, 2, rim, api.OK)
	checkHalfway(t, p, l, 1, 2, rim, api.OK)
	checkHalfway(t, p, l, 0, 1, rim, api.OK)
	checkHalfway(t, p, l, 1, 3, out, api.OK)
	checkHalfway(t, p, l, 1, 4, in, api.OK)
	checkHalfway(t, p, l, 3, 4, in, api.OK)
	checkHalfway(t, p, l, 1, 5, out, api.OK)
	checkHalfway(t, p, l, 3, 5, rim, api.OK)
	checkHalfway(t, p, l, 4, 2, out, api.OK)
}

// wrong are places that do not fit, by one and by far: some of them so far that, doubled or tripled, they would come round to what fits.
func wrong() []api.Point {
	const third = 6148914691236517205
	return points(bound+1, 0, 0, bound+1, -bound-1, 0, 0, -bound-1, bound+1, bound+1, -bound-1, bound, math.MaxInt, 0, 0, math.MinInt, math.MinInt, math.MinInt, math.MaxInt, math.MaxInt,
		1<<62, 0, 0, -1<<62, third, 0, 0, -third, third, third, -third, third, third+1, 0, 1<<63-1, -1<<63)
}

// spoilt calls f with lists that are right but for one segment, at each place of the list.
func spoilt(p []api.Point, l []api.Seg, f func(p []api.Point, l []api.Seg)) {
	n := len(p)
	more := append(slices.Clone(p), p[0])
	for _, s := range segs(n+1, 0, 0, n+1, -1, 0, 0, -1, -1, -2, n+1, n+2, n+1, -1, math.MinInt, 0, 0, math.MaxInt, math.MinInt, math.MaxInt, 1<<32, 0, 0, 0, n, n, 0, n, n, 0, n+1, n+1, -1, -1) {
		for i := range len(l) + 1 {
			f(more, slices.Insert(slices.Clone(l), i, s))
		}
	}
	for _, q := range wrong() {
		more := append(slices.Clone(p), q)
		for i := range len(l) + 1 {
			f(more, slices.Insert(slices.Clone(l), i, seg(0, n)))
			f(more, slices.Insert(slices.Clone(l), i, seg(n, 0)))
		}
	}
}

func TestWrongSegments(t *testing.T) {
	p := points(0, 0, 4, 0, 4, 4, 0, 4)
	spoilt(p, around(rising(0, 4)), func(p []api.Point, l []api.Seg) {
		// Also with a point on the rim of the others, and at the wrong places themselves.
		for _, q := range []api.Point{at(1, 1), at(5, 5), at(0, 0), at(2, 4), p[4]} {
			checkAt(t, p, l, q, 0, api.ErrArg)
		}
		checkHalfway(t, p, l, 0, 2, 0, api.ErrArg)
		checkHalfway(t, p, l, 0, 1, 0, api.ErrArg)
		checkHalfway(t, p, l, 0, 4, 0, api.ErrArg)
		checkThird(t, p, l, 0, 1, 2, 0, api.ErrArg)
		checkThird(t, p, l, 0, 0, 0, 0, api.ErrArg)
		checkThird(t, p, l, 1, 2, 4, 0, api.ErrArg)
	})
	checkAt(t, nil, segs(0, 1), at(0, 0), 0, api.ErrArg)
	checkAt(t, p[:1], segs(0, 1), at(0, 0), 0, api.ErrArg)
	checkAt(t, p[:1], segs(0, 0), at(0, 0), 0, api.ErrArg)
	checkAt(t, p[:3], segs(0, 1, 1, 2, 2, 3, 3, 0), at(1, 1), 0, api.ErrArg)
}

func TestWrongPoints(t *testing.T) {
	p := points(0, 0, 4, 0, 4, 4, 0, 4)
	l := around(rising(0, 4))
	for _, q := range wrong() {
		checkAt(t, p, l, q, 0, api.ErrArg)
		checkAt(t, p, nil, q, 0, api.ErrArg)
		checkAt(t, nil, nil, q, 0, api.ErrArg)
		// Beside another one that would bring their sum back, too.
		more := append(slices.Clone(p), q, at(-q.X, -q.Y), at(-2*q.X, -2*q.Y))
		for _, l := range [][]api.Seg{nil, l} {
			for _, i := range []int{0, 2, 4, 5} {
				checkHalfway(t, more, l, 4, i, 0, api.ErrArg)
				checkThird(t, more, l, 4, i, 0, 0, api.ErrArg)
				checkThird(t, more, l, i, i, 4, 0, api.ErrArg)
			}
			checkThird(t, more, l, 4, 4, 6, 0, api.ErrArg)
			// Points that are not named may be anywhere.
			checkAt(t, more, l, at(5, 5), out, api.OK)
			checkHalfway(t, more, l, 2, 2, map[bool]int{true: out, false: rim}[l == nil], api.OK)
			checkThird(t, more, l, 0, 1, 2, map[bool]int{true: out, false: in}[l == nil], api.OK)
		}
	}
	for _, i := range []int{-1, 4, 5, 1 << 32, math.MinInt, math.MaxInt, -4} {
		for _, l := range [][]api.Seg{nil, l} {
			checkHalfway(t, p, l, 0, i, 0, api.ErrArg)
			checkHalfway(t, p, l, i, i, 0, api.ErrArg)
			checkThird(t, p, l, 0, 1, i, 0, api.ErrArg)
			checkThird(t, p, l, i, i, 0, 0, api.ErrArg)
			checkThird(t, p, l, i, i, i, 0, api.ErrArg)
		}
	}
	checkHalfway(t, nil, nil, 0, 0, 0, api.ErrArg)
	checkThird(t, nil, nil, 0, 0, 0, 0, api.ErrArg)
}

// What just fits, and what just does not, when it is taken twice or three times.
func TestBounds(t *testing.T) {
	const b, half, third = bound, bound / 2, bound / 3
	// The whole plane.
	p := points(-b, -b, b, -b, b, b, -b, b)
	l := around(rising(0, 4))
	checkAt(t, p, l, at(0, 0), in, api.OK)
	checkAt(t, p, l, at(b-1, 1-b), in, api.OK)
	checkAt(t, p, l, at(b, 0), rim, api.OK)
	checkAt(t, p, l, at(b, b), rim, api.OK)
	checkAt(t, p, l, at(-b, b-1), rim, api.OK)
	checkAt(t, p, segs(0, 2, 2, 3, 3, 0), at(-1, 0), in, api.OK)
	checkAt(t, p, segs(0, 2, 2, 3, 3, 0), at(1, 0), out, api.OK)
	checkAt(t, p, segs(0, 2, 2, 3, 3, 0), at(b-1, b-1), rim, api.OK)
	checkHalfway(t, p, l, 0, 2, 0, api.ErrArg)
	checkHalfway(t, p, nil, 0, 2, out, api.OK)
	checkHalfway(t, p, nil, 0, 1, 0, api.ErrArg)
	// Ends at each coordinate, beside a point whose sum fits.
	for _, x := range []struct {
		end        int
		two, three bool
	}{{half, true, false}, {half + 1, false, false}, {third, true, true}, {third + 1, true, false}, {b, false, false}} {
		for _, end := range points(x.end, 0, 0, x.end, -x.end, 0, 0, -x.end, x.end, -x.end) {
			p := []api.Point{at(7, 9), end, at(7, 8)}
			for _, l := range [][]api.Seg{segs(0, 1), segs(1, 0)} {
				if _, e := within.Halfway(p, l, 0, 2); (e == api.OK) != x.two {
					t.Errorf("Halfway with an end at %v: error %d", end, e)
				}
				if _, e := within.Third(p, l, 0, 2, 2); (e == api.OK) != x.three {
					t.Errorf("Third with an end at %v: error %d", end, e)
				}
				checkMeans(t, p, l, 0, 2, 2)
			}
			checkMeans(t, p, nil, 0, 2, 2)
			checkMeans(t, p, nil, 1, 1, 1)
			checkMeans(t, p, nil, 1, 1, 0)
		}
	}
	// Sums: what is added may be above half the bound, if the sum is not above the bound.
	q := points(b, 1, -b, 1, b-5, 1, 5, 1, 6, 1, 0, b, 0, -b, 2, 1-b, 2, -1, 2, -2, 0, 1, 0, 2, 1, 0)
	l = segs(3, 4, 4, 8, 8, 3)
	for _, x := range []struct{ a, b, want int }{{0, 1, out}, {2, 3, out}, {7, 8, out}, {5, 6, out}, {0, 12, 9}, {2, 4, 9}, {7, 9, 9}, {1, 1, 9}, {5, 10, 9}, {0, 0, 9}} {
		if x.want == 9 {
			checkHalfway(t, q, l, x.a, x.b, 0, api.ErrArg)
		} else {
			checkHalfway(t, q, l, x.a, x.b, x.want, api.OK)
		}
	}
	for _, x := range []struct{ a, b, c, want int }{{0, 1, 0, out}, {0, 1, 12, out}, {2, 3, 10, out}, {5, 6, 5, out}, {7, 8, 10, out}, {2, 3, 12, 9}, {5, 10, 6, out}, {5, 10, 10, 9}, {0, 0, 1, out}, {0, 0, 0, 9}, {0, 12, 12, 9}} {
		if x.want == 9 {
			checkThird(t, q, l, x.a, x.b, x.c, 0, api.ErrArg)
		} else {
			checkThird(t, q, l, x.a, x.b, x.c, x.want, api.OK)
		}
	}
}

// All lists of one and two segments over a small grid, and of three over a still smaller one, with all points around.
func TestAllShortLists(t *testing.T) {
	for _, x := range []struct{ width, height, length int }{{3, 3, 2}, {2, 2, 3}, {4, 2, 2}, {2, 5, 1}} {
		var p, q []api.Point
		for i := range x.width * x.height {
			p = append(p, at(i%x.width, i/x.width))
		}
		for i := range (x.width + 2) * (x.height + 2) {
			q = append(q, at(i%(x.width+2)-1, i/(x.width+2)-1))
		}
		var all []api.Seg
		for a := range p {
			for b := range p {
				if a != b {
					all = append(all, seg(a, b))
				}
			}
		}
		allLists(all, x.length, func(l []api.Seg) { checkSmall(t, p, l, q) })
	}
}

func allLists(all []api.Seg, most int, f func(l []api.Seg)) {
	var grow func(l []api.Seg)
	grow = func(l []api.Seg) {
		f(l)
		if len(l) < most {
			for _, s := range all {
				grow(append(slices.Clone(l), s))
			}
		}
	}
	grow(nil)
}

// checkSmall counts in small whole numbers: what is across the level line through q is to its right if the area on that side is.
func checkSmall(t *testing.T, p []api.Point, l []api.Seg, all []api.Point) {
	t.Helper()
	for _, q := range all {
		want := out
		for _, s := range l {
			a, b := p[s.A], p[s.B]
			area := (b.X-a.X)*(q.Y-a.Y) - (b.Y-a.Y)*(q.X-a.X)
			ahead, length := (b.X-a.X)*(q.X-a.X)+(b.Y-a.Y)*(q.Y-a.Y), (b.X-a.X)*(b.X-a.X)+(b.Y-a.Y)*(b.Y-a.Y)
			if area == 0 && ahead >= 0 && ahead <= length {
				want = rim
				break
			}
			if up := a.Y <= q.Y && b.Y > q.Y; up && area > 0 || !up && b.Y <= q.Y && a.Y > q.Y && area < 0 {
				want = -want
			}
		}
		if got, e := within.At(p, l, q); got != want || e != api.OK {
			t.Fatalf("At(%v, %v, %v) = %d, %d, want %d", p, l, q, got, e, want)
		}
	}
}

// cells are some of the cells of a board; their rims are segments between cells that are in it and cells that are not.
type cells struct {
	width, height int
	in            []bool
}

func drawnCells(r *rand.Rand) cells {
	c := cells{width: 1 + r.IntN(7), height: 1 + r.IntN(7)}
	for range c.width * c.height {
		c.in = append(c.in, r.IntN(2) == 0)
	}
	return c
}

func (c cells) has(x, y int) bool {
	return x >= 0 && y >= 0 && x < c.width && y < c.height && c.in[y*c.width+x]
}

// corner is the number of a corner of cells, counted from one beyond the board on.
func (c cells) corner(x, y int) int {
	return (y+1)*(c.width+3) + x + 1
}

func (c cells) corners() []api.Point {
	var p []api.Point
	for y := -1; y <= c.height+1; y++ {
		for x := -1; x <= c.width+1; x++ {
			p = append(p, at(x, y))
		}
	}
	return p
}

func (c cells) rims() []api.Seg {
	var l []api.Seg
	for y := 0; y <= c.height; y++ {
		for x := 0; x <= c.width; x++ {
			if c.has(x, y) != c.has(x-1, y) {
				l = append(l, seg(c.corner(x, y), c.corner(x, y+1)))
			}
			if c.has(x, y) != c.has(x, y-1) {
				l = append(l, seg(c.corner(x, y), c.corner(x+1, y)))
			}
		}
	}
	return l
}

// lies tells where a place is around which there are only these cells: on a rim if they are not all alike.
func lies(cells ...bool) int {
	switch {
	case slices.Contains(cells, !cells[0]):
		return rim
	case cells[0]:
		return in
	default:
		return out
	}
}

// The cells of a board that are in it are just those within the rims.
func TestBoards(t *testing.T) {
	r := rand.New(rand.NewPCG(9, 2))
	for range 400 {
		c := drawnCells(r)
		p, l := c.corners(), shuffled(r, c.rims())
		for y := -1; y <= c.height; y++ {
			for x := -1; x <= c.width; x++ {
				here := lies(c.has(x, y))
				checkHalfway(t, p, l, c.corner(x, y), c.corner(x+1, y+1), here, api.OK)
				checkThird(t, p, l, c.corner(x, y), c.corner(x+1, y), c.corner(x+1, y+1), here, api.OK)
				checkThird(t, p, l, c.corner(x, y), c.corner(x, y+1), c.corner(x, y+1), lies(c.has(x, y), c.has(x-1, y)), api.OK)
				checkHalfway(t, p, l, c.corner(x, y), c.corner(x+1, y), lies(c.has(x, y), c.has(x, y-1)), api.OK)
				checkHalfway(t, p, l, c.corner(x, y), c.corner(x, y+1), lies(c.has(x, y), c.has(x-1, y)), api.OK)
				checkAt(t, p, l, at(x, y), lies(c.has(x, y), c.has(x-1, y), c.has(x, y-1), c.has(x-1, y-1)), api.OK)
			}
		}
	}
}

// drawnPoints are near to each other or far, but fit. Many are at equal heights.
func drawnPoints(r *rand.Rand, n int, size int) []api.Point {
	p := make([]api.Point, n)
	for i := range p {
		p[i] = at(r.IntN(2*size+1)-size, r.IntN(2*size+1)-size)
		if i > 0 && r.IntN(3) == 0 {
			p[i].Y = p[r.IntN(i)].Y
		}
	}
	return p
}

// drawnRings are of different points each, two at least, if there are two.
func drawnRings(r *rand.Rand, p []api.Point) [][]int {
	var rings [][]int
	for range r.IntN(5) {
		var ring []int
		for range r.IntN(9) {
			i := r.IntN(len(p))
			if len(ring) == 0 || p[ring[len(ring)-1]] != p[i] && p[ring[0]] != p[i] {
				ring = append(ring, i)
			}
		}
		if len(ring) > 1 {
			rings = append(rings, ring)
		}
	}
	return rings
}

// drawnPlace is one of the points, or a place near to one, on a segment or between points.
func drawnPlace(r *rand.Rand, p []api.Point, size int) api.Point {
	a, b := p[r.IntN(len(p))], p[r.IntN(len(p))]
	var q api.Point
	switch r.IntN(6) {
	case 0:
		q = a
	case 1:
		q = plus(a, at(r.IntN(3)-1, r.IntN(3)-1))
	case 2:
		q = at(a.X/2+b.X/2, a.Y/2+b.Y/2)
	case 3:
		q = at(b.X, a.Y)
	case 4:
		q = at(r.IntN(2*size+1)-size, a.Y)
	default:
		q = at(r.IntN(2*size+1)-size, r.IntN(2*size+1)-size)
	}
	return at(min(max(q.X, -bound), bound), min(max(q.Y, -bound), bound))
}

// drawn calls f with points, rings of them and a place, the same ones in each run.
func drawn(n int, seed uint64, f func(r *rand.Rand, size int, p []api.Point, rings [][]int, q api.Point)) {
	r := rand.New(rand.NewPCG(9, seed))
	for range n {
		size := 1 << r.IntN(33)
		p := drawnPoints(r, 2+r.IntN(15), size)
		f(r, size, p, drawnRings(r, p), drawnPlace(r, p, size))
	}
}

func TestAgainstFractions(t *testing.T) {
	found := map[int]int{}
	drawn(12000, 3, func(r *rand.Rand, _ int, p []api.Point, rings [][]int, q api.Point) {
		l := shuffled(r, around(rings...))
		if len(l) > 0 && r.IntN(4) == 0 {
			l = l[:r.IntN(len(l))]
		}
		check(t, p, l, q)
		where, _ := within.At(p, l, q)
		found[where]++
		checkMeans(t, p, l, r.IntN(len(p)), r.IntN(len(p)), r.IntN(len(p)))
	})
	if found[in] < 1000 || found[rim] < 1000 || found[out] < 3000 {
		t.Errorf("of 12000 draws there were %v", found)
	}
}

func TestDrawnMeans(t *testing.T) {
	found := map[[2]int]int{}
	drawn(12000, 4, func(r *rand.Rand, size int, p []api.Point, rings [][]int, _ api.Point) {
		if size > bound/3 && r.IntN(2) == 0 {
			p = each(p, func(q api.Point) api.Point { return at(q.X/3, q.Y/3) })
		}
		l := around(rings...)
		a, b, c := r.IntN(len(p)), r.IntN(len(p)), r.IntN(len(p))
		checkMeans(t, p, l, a, b, c)
		where, e := within.Halfway(p, l, a, b)
		found[[2]int{2, where + 9*int(e)}]++
		where, e = within.Third(p, l, a, b, c)
		found[[2]int{3, where + 9*int(e)}]++
	})
	for n := 2; n <= 3; n++ {
		for _, x := range []int{in, rim, out, 9 * int(api.ErrArg)} {
			if found[[2]int{n, x}] < 100 {
				t.Errorf("of 12000 draws there were %v", found)
			}
		}
	}
}

// Wrong numbers and places among what is drawn.
func TestDrawnFaults(t *testing.T) {
	found := map[api.Errno]int{}
	drawn(8000, 5, func(r *rand.Rand, _ int, p []api.Point, rings [][]int, q api.Point) {
		l := around(rings...)
		a, b, c := r.IntN(len(p)), r.IntN(len(p)), r.IntN(len(p))
		far := wrong()[r.IntN(len(wrong()))]
		bad := []int{-1, len(p), math.MinInt, math.MaxInt}[r.IntN(4)]
		switch {
		case r.IntN(4) == 0:
			p[r.IntN(len(p))] = far
		case r.IntN(4) == 0 && len(l) > 0:
			l[r.IntN(len(l))].B = bad
		case r.IntN(4) == 0 && len(l) > 0:
			i := r.IntN(len(l))
			l[i].A = l[i].B
		case r.IntN(4) == 0:
			q, b = far, bad
		}
		check(t, p, l, q)
		checkMeans(t, p, l, a, b, c)
		_, e := within.At(p, l, q)
		found[e]++
	})
	if found[api.OK] < 2000 || found[api.ErrArg] < 2000 || len(found) != 2 {
		t.Errorf("of 8000 draws there were %v", found)
	}
}

// For loops it is the same whether segments to the right are counted, to the left, above or below.
func TestFourSides(t *testing.T) {
	drawn(6000, 6, func(r *rand.Rand, _ int, p []api.Point, rings [][]int, q api.Point) {
		l := shuffled(r, around(rings...))
		n, ok := crossings(p, l, placeOf(q), -1)
		want := []int{out, in}[n%2]
		if !ok {
			want = rim
		}
		for range 4 {
			checkAt(t, p, l, q, want, api.OK)
			p, q = each(p, turned), turned(q)
		}
		mirror := func(p api.Point) api.Point { return at(-p.X, p.Y) }
		checkAt(t, each(p, mirror), l, mirror(q), want, api.OK)
	})
}

// P4: neither translation nor other numbers of the points change anything.
func TestElsewhere(t *testing.T) {
	drawn(3000, 7, func(r *rand.Rand, size int, p []api.Point, rings [][]int, q api.Point) {
		l := shuffled(r, around(rings...))
		want, e := wantAt(p, l, q)
		if e != api.OK {
			t.Fatal("a point does not fit")
		}
		for _, by := range shifts(r, max(0, bound-size-1)) {
			move := func(p api.Point) api.Point { return plus(p, by) }
			checkAt(t, each(p, move), l, move(q), want, api.OK)
		}
		names := r.Perm(len(p))
		renamed := make([]api.Point, len(p))
		for i, name := range names {
			renamed[name] = p[i]
		}
		var other []api.Seg
		for _, s := range l {
			other = append(other, seg(names[s.A], names[s.B]))
		}
		checkAt(t, renamed, other, q, want, api.OK)
		var named [][]int
		for _, ring := range rings {
			var other []int
			for _, i := range ring {
				other = append(other, names[i])
			}
			named = append(named, other)
		}
		depths, e := within.Deep(p, rings)
		checkDeep(t, renamed, named, depths, e)
	})
}

// shifts are ways to go, by at most that far.
func shifts(r *rand.Rand, most int) []api.Point {
	return points(most, most, -most, most, most, -most, -most, -most, 0, min(1, most), r.IntN(most+1), -r.IntN(most+1))
}

// The means, elsewhere on the grid: as far as all fits.
func TestMeansElsewhere(t *testing.T) {
	drawn(3000, 8, func(r *rand.Rand, size int, p []api.Point, rings [][]int, _ api.Point) {
		if size >= bound/3 {
			return
		}
		l := shuffled(r, around(rings...))
		a, b, c := r.IntN(len(p)), r.IntN(len(p)), r.IntN(len(p))
		half, e := within.Halfway(p, l, a, b)
		third, f := within.Third(p, l, a, b, c)
		if e != api.OK || f != api.OK {
			t.Fatal(p, l, a, b, c, e, f)
		}
		for _, by := range shifts(r, bound/3-size) {
			moved := each(p, func(p api.Point) api.Point { return plus(p, by) })
			checkHalfway(t, moved, l, a, b, half, api.OK)
			checkThird(t, moved, l, a, b, c, third, api.OK)
		}
		for range 3 {
			p = each(p, turned)
			checkHalfway(t, p, l, a, b, half, api.OK)
			checkThird(t, p, l, a, b, c, third, api.OK)
		}
	})
}

func TestDeep(t *testing.T) {
	// Squares one in another, each with four numbers; then one beside them, and one on the rim of the greatest.
	p := points(0, 0, 9, 0, 9, 9, 0, 9, 1, 1, 8, 1, 8, 8, 1, 8, 2, 2, 7, 2, 7, 7, 2, 7, 12, 0, 14, 0, 14, 2, 12, 2, 9, 4, 12, 4, 12, 5, 9, 5)
	a, b, c, d, e := []int{0, 1, 2, 3}, []int{4, 5, 6, 7}, []int{8, 9, 10, 11}, []int{12, 13, 14, 15}, []int{16, 17, 18, 19}
	for _, x := range []struct {
		rings [][]int
		want  []int
	}{
		{nil, nil}, {[][]int{}, nil}, {[][]int{a}, []int{0}}, {[][]int{a, b}, []int{0, 1}}, {[][]int{b, a}, []int{1, 0}}, {[][]int{a, b, c}, []int{0, 1, 2}}, {[][]int{c, a, b}, []int{2, 0, 1}},
		{[][]int{d, c, b, a}, []int{0, 2, 1, 0}}, {[][]int{a, d}, []int{0, 0}}, {[][]int{a, c}, []int{0, 1}},
		// The first point on the rim of another ring does not count; from another point on, it does not, either, or is outside.
		{[][]int{a, e}, []int{0, 0}}, {[][]int{e, a}, []int{0, 0}}, {[][]int{a, {17, 18, 19, 16}}, []int{0, 0}}, {[][]int{a, {19, 16, 17, 18}}, []int{0, 0}},
		// Only the first point counts: these lead from one to another.
		{[][]int{a, {9, 13, 14}}, []int{0, 1}}, {[][]int{a, {13, 14, 9}}, []int{0, 0}}, {[][]int{a, b, c, {13, 14, 9}}, []int{0, 1, 2, 0}}, {[][]int{b, {0, 12, 15}, {6, 12, 15}}, []int{0, 0, 0}},
		// The same ring twice, and the other way round.
		{[][]int{a, a}, []int{0, 0}}, {[][]int{a, {3, 2, 1, 0}, b}, []int{0, 0, 2}}, {[][]int{b, a, b}, []int{1, 0, 1}}, {[][]int{c, a, a, c, b}, []int{3, 0, 0, 3, 2}},
		// Two points: nothing is inside.
		{[][]int{{0, 2}, c}, []int{0, 0}}, {[][]int{a, {8, 10}}, []int{0, 1}}, {[][]int{{4, 6}, {8, 10}, {9, 11}}, []int{0, 0, 0}},
		// A number that comes twice; a ring round the same points twice, with nothing in it.
		{[][]int{{0, 1, 2, 0, 3}, c}, []int{0, 0}}, {[][]int{{0, 1, 2, 3, 0, 1, 2, 3}, b}, []int{0, 0}}, {[][]int{{0, 1, 2, 3, 0, 1, 2, 3, 0, 1, 2, 3}, b}, []int{0, 1}},
	} {
		checkDeep(t, p, x.rings, x.want, api.OK)
		checkDepths(t, p, x.rings)
	}
}

// checkWrongRing wants ErrArg for this ring alone, and before, after and between right ones.
func checkWrongRing(t *testing.T, p []api.Point, wrong []int) {
	t.Helper()
	right := []int{0, 1, 2, 3}
	for _, rings := range [][][]int{{wrong}, {right, wrong}, {wrong, right}, {right, wrong, right}, {right, right, wrong}, {wrong, wrong}} {
		checkDeep(t, p, rings, nil, api.ErrArg)
		checkDepths(t, p, rings)
	}
}

func TestWrongRings(t *testing.T) {
	p := points(0, 0, 4, 0, 4, 4, 0, 4, 4, 0, 0, 0)
	for _, wrong := range [][]int{
		// Empty, of one number, and with wrong ones.
		{}, nil, {0}, {5}, {-1}, {6}, {0, 6, 1}, {6, 0, 1}, {0, 1, 6}, {0, -1, 1}, {-1, 0, 1}, {0, 1, -1}, {math.MinInt, 0, 1}, {0, math.MaxInt, 1}, {0, 1 << 32, 1}, {math.MaxInt}, {-1, -2}, {6, 7, 8},
		// Two equal ones in a row, by number and by place, and the last one with the first one.
		{0, 0}, {0, 0, 1}, {0, 1, 1}, {0, 1, 0}, {0, 1, 2, 2, 3}, {0, 1, 2, 0}, {0, 1, 4, 3}, {0, 1, 4, 2, 3}, {1, 4}, {1, 2, 3, 4}, {5, 1, 2, 0}, {0, 1, 2, 5}, {5, 0}, {5, 5},
	} {
		checkWrongRing(t, p, wrong)
	}
	for _, q := range wrong() {
		p := append(slices.Clone(p), q)
		for _, wrong := range [][]int{{6}, {0, 6}, {6, 0}, {0, 1, 6}, {0, 6, 2}, {6, 1, 2}, {0, 1, 2, 3, 6}} {
			checkWrongRing(t, p, wrong)
		}
		// Points that no ring names may be anywhere, and equal.
		checkDeep(t, p, [][]int{{0, 1, 2, 3}}, []int{0}, api.OK)
		checkDeep(t, p, [][]int{{0, 1, 2, 3}, {1, 2, 3}, {0, 2}}, []int{0, 0, 0}, api.OK)
	}
	checkDeep(t, nil, [][]int{{0, 1, 2}}, nil, api.ErrArg)
	checkDeep(t, nil, [][]int{nil}, nil, api.ErrArg)
	// The bounds themselves.
	const b = bound
	p = points(-b, -b, b, -b, b, b, -b, b, 1-b, 1-b, b-1, 1-b, 0, b-1)
	checkDeep(t, p, [][]int{{0, 1, 2, 3}, {4, 5, 6}}, []int{0, 1}, api.OK)
	p[2].X++
	checkDeep(t, p, [][]int{{0, 1, 2, 3}, {4, 5, 6}}, nil, api.ErrArg)
}

func TestDrawnRings(t *testing.T) {
	deepest, errors := map[int]int{}, 0
	drawn(12000, 9, func(r *rand.Rand, _ int, p []api.Point, rings [][]int, _ api.Point) {
		if len(rings) > 0 && r.IntN(8) == 0 {
			i := r.IntN(len(rings))
			rings[i][r.IntN(len(rings[i]))] = []int{-1, 0, 1, len(p), len(p) - 1}[r.IntN(5)]
		}
		checkDepths(t, p, rings)
		depths, e := within.Deep(p, rings)
		if e != api.OK {
			errors++
		} else if len(depths) > 0 {
			deepest[slices.Max(depths)]++
		}
	})
	if deepest[0] < 3000 || deepest[1] < 400 || deepest[2] < 30 || errors < 400 {
		t.Errorf("of 12000 draws there were %v and %d errors", deepest, errors)
	}
}

// Many rings, one in another, in a drawn order.
func TestNestedRings(t *testing.T) {
	const n = 120
	r := rand.New(rand.NewPCG(9, 10))
	var p []api.Point
	for i := range n {
		p = append(p, points(-n+i, -n+i, n-i, -n+i, n-i, n-i, -n+i, n-i)...)
	}
	order := r.Perm(n)
	var rings [][]int
	for _, i := range order {
		first := r.IntN(4)
		rings = append(rings, slices.Concat(rising(4*i+first, 4*i+4), rising(4*i, 4*i+first)))
	}
	checkDeep(t, p, rings, order, api.OK)
}

// A great many segments: the teeth of a comb, between which it is outside.
func TestLongLists(t *testing.T) {
	const teeth = 1 << 18
	var p []api.Point
	for i := range teeth {
		p = append(p, points(4*i, 0, 4*i, 10, 4*i+2, 10, 4*i+2, 1)...)
	}
	p[len(p)-1].Y = 0
	l := around(rising(0, len(p)))
	for _, i := range []int{0, 1, 2, 1000, teeth / 2, teeth - 2, teeth - 1} {
		for _, x := range []struct {
			q    api.Point
			want int
		}{{at(4*i+1, 5), in}, {at(4*i, 5), rim}, {at(4*i+2, 5), rim}, {at(4*i+3, 5), out}, {at(4*i+1, 10), rim}, {at(4*i+1, 11), out}, {at(4*i+1, -1), out}} {
			if got, e := within.At(p, l, x.q); got != x.want || e != api.OK {
				t.Errorf("At(%v) = %d, %d, want %d", x.q, got, e, x.want)
			}
		}
		if got, e := within.Halfway(p, l, 4*i, 4*i+2); got != in || e != api.OK {
			t.Errorf("Halfway of tooth %d = %d, %d", i, got, e)
		}
		if got, e := within.Third(p, l, 4*i, 4*i+1, 4*i+2); got != in || e != api.OK {
			t.Errorf("Third of tooth %d = %d, %d", i, got, e)
		}
	}
	p = append(p, points(1, 5, 2, 5, 1, 6, 3, 5, 4, 5, 3, 6)...)
	n := len(p) - 6
	if depths, e := within.Deep(p, [][]int{rising(n, n+3), rising(0, n), rising(n+3, n+6)}); !slices.Equal(depths, []int{1, 0, 0}) || e != api.OK {
		t.Error("Deep", depths, e)
	}
	l = append(l, seg(0, len(p)))
	if got, e := within.At(p, l, at(0, 0)); got != 0 || e != api.ErrArg {
		t.Error("At with a wrong last segment", got, e)
	}
}

// fill makes all elements x, the ones behind the end too.
func fill[T any](l []T, x T) {
	l = l[:cap(l)]
	for i := range l {
		l[i] = x
	}
}

// R2: results are the caller's own; what is behind the end of an argument is neither read nor written.
func TestResultsAreNewMemory(t *testing.T) {
	p := points(0, 0, 9, 0, 9, 9, 0, 9, 1, 1, 8, 1, 8, 8, 1, 8, bound+1, 0, 3, 3)
	numbers := []int{0, 1, 2, 3, 4, 5, 6, 7, 99, -1}
	keptP, kept := slices.Clone(p), slices.Clone(numbers)
	rings := [][]int{numbers[:4], numbers[4:8], {99}}[:2]
	first, e := within.Deep(p[:8], rings)
	second, f := within.Deep(p[:8], rings)
	if !slices.Equal(first, []int{0, 1}) || !slices.Equal(second, first) || e != api.OK || f != api.OK {
		t.Fatal(first, second, e, f)
	}
	fill(first, 77)
	if !slices.Equal(second, []int{0, 1}) {
		t.Errorf("one result became %v as the other one was changed", second)
	}
	fill(second, 78)
	if slices.Contains(first, 78) {
		t.Errorf("one result became %v as the other one was changed", first)
	}
	l := segs(0, 1, 1, 2, 2, 3, 3, 0, 0, 99, -1, -1)
	keptL := slices.Clone(l)
	checkAt(t, p[:4], l[:4], at(1, 1), in, api.OK)
	checkHalfway(t, p[:4], l[:4], 0, 2, in, api.OK)
	checkThird(t, p[:4], l[:4], 0, 2, 2, in, api.OK)
	if !slices.Equal(p, keptP) || !slices.Equal(numbers, kept) || !slices.Equal(l, keptL) {
		t.Errorf("arguments became %v, %v, %v", p, numbers, l)
	}
}

// R4: what was asked ahead changes no answer.
func TestSameAgain(t *testing.T) {
	list := shapes()
	for _, x := range list {
		for _, y := range list {
			for _, s := range []shape{x, y, x} {
				checkAt(t, s.p, s.l, s.q[0], s.want[0], api.OK)
				checkAt(t, s.p, append(segs(-1, 0), s.l...), s.q[0], 0, api.ErrArg)
				if len(s.p) > 3 {
					checkMeans(t, s.p, s.l, 0, 1, 2)
					checkDepths(t, s.p, [][]int{{0, 1, 2}, {1, 2, 3}})
				}
			}
		}
	}
}

// R6: nil is as empty as others are.
func TestNilAndEmpty(t *testing.T) {
	for _, l := range [][]api.Seg{nil, {}, segs(0, 1)[:0]} {
		for _, p := range [][]api.Point{nil, {}, points(0, 0)[:0]} {
			checkAt(t, p, l, at(0, 0), out, api.OK)
			checkHalfway(t, p, l, 0, 0, 0, api.ErrArg)
			checkThird(t, p, l, 0, 0, 0, 0, api.ErrArg)
		}
		checkAt(t, points(0, 0), l, at(0, 0), out, api.OK)
		checkHalfway(t, points(0, 0), l, 0, 0, out, api.OK)
		checkThird(t, points(0, 0), l, 0, 0, 0, out, api.OK)
	}
	for _, p := range [][]api.Point{nil, {}, points(0, 0, 4, 0, 0, 4)} {
		for _, rings := range [][][]int{nil, {}, {{0, 1, 2}}} {
			checkDeep(t, p, rings[:0], nil, api.OK)
		}
		for _, rings := range [][][]int{{nil}, {{}}, {nil, {0, 1, 2}}, {{0, 1, 2}, {}}} {
			checkDeep(t, p, rings, nil, api.ErrArg)
		}
	}
}

// grown reads points and numbers from bytes: small steps at a corner of what fits.
func grown(b []byte, x, y int) ([]api.Point, []int) {
	var p []api.Point
	var numbers []int
	for _, n := range b[:min(len(b), 60)] {
		if n < 128 {
			p = append(p, at(x+int(n%11)-5, y+int(n/11)-5))
		} else {
			numbers = append(numbers, int(n-128)-1)
		}
	}
	return p, numbers
}

func FuzzAt(f *testing.F) {
	f.Add([]byte{0, 4, 48, 44, 129, 130, 130, 131, 131, 132, 132, 129}, 0, 0, 1, 1)
	f.Add([]byte{0, 10, 120, 129, 130, 130, 131, 131, 129}, 1<<31, -1<<31, 1<<31, -1<<31)
	f.Add([]byte{0, 10, 120, 129, 130}, 1<<32, -1<<32, math.MaxInt, math.MinInt)
	f.Fuzz(func(t *testing.T, b []byte, x, y, qx, qy int) {
		p, numbers := grown(b, x, y)
		var l []api.Seg
		for i := 0; i+1 < len(numbers); i += 2 {
			l = append(l, seg(numbers[i], numbers[i+1]))
		}
		check(t, p, l, at(qx, qy))
		p = append(p, at(qx, qy))
		checkMeans(t, p, l, len(p)-1, len(b)%len(p), len(b)/2%len(p))
	})
}

func FuzzDeep(f *testing.F) {
	f.Add([]byte{0, 10, 120, 110, 24, 26, 48, 129, 130, 131, 132, 128, 133, 134, 135}, 0, 0)
	f.Add([]byte{0, 10, 120, 129, 130, 131, 128, 128}, 1<<32-5, 5-1<<32)
	f.Fuzz(func(t *testing.T, b []byte, x, y int) {
		p, numbers := grown(b, x, y)
		rings := [][]int{nil}
		for _, n := range numbers {
			if n < 0 {
				rings = append(rings, nil)
			} else {
				rings[len(rings)-1] = append(rings[len(rings)-1], n)
			}
		}
		checkDepths(t, p, rings)
		checkDepths(t, p, rings[1:])
	})
}
