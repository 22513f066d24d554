package rings_test

import (
	"math"
	"math/big"
	"math/rand/v2"
	"slices"
	"testing"

	"parquet/api"
	"parquet/rings"
	"parquet/wide"
)

// The calls that the chapter lists, with their exact signatures: a change of one does not compile.
var (
	_ func(int, []api.Seg) ([]int, api.Errno)        = rings.Degrees
	_ func(int, []api.Seg) ([][]int, int, api.Errno) = rings.Rings
	_ func(...[]int) []api.Seg                       = rings.Segs
	_ func([]api.Point, []int) (api.Wide, api.Errno) = rings.Area
)

func at(x, y int) api.Point {
	return api.Point{X: x, Y: y}
}

func points(xy ...int) []api.Point {
	var p []api.Point
	for i := 0; i < len(xy); i += 2 {
		p = append(p, at(xy[i], xy[i+1]))
	}
	return p
}

func each(p []api.Point, f func(api.Point) api.Point) []api.Point {
	var out []api.Point
	for _, q := range p {
		out = append(out, f(q))
	}
	return out
}

func seg(a, b int) api.Seg {
	return api.Seg{A: a, B: b}
}

// segs has a segment for each two numbers.
func segs(ends ...int) []api.Seg {
	var l []api.Seg
	for i := 0; i < len(ends); i += 2 {
		l = append(l, seg(ends[i], ends[i+1]))
	}
	return l
}

// round has the segments around the numbers from to until - 1.
func round(from, until int) []api.Seg {
	var l []api.Seg
	for p := from; p < until-1; p++ {
		l = append(l, seg(p, p+1))
	}
	return append(l, seg(until-1, from))
}

// rising has the numbers from to until - 1.
func rising(from, until int) []int {
	var l []int
	for p := from; p < until; p++ {
		l = append(l, p)
	}
	return l
}

// loopsOf has these rings as one list.
func loopsOf(l ...[]int) [][]int {
	return l
}

func sameRings(a, b [][]int) bool {
	return slices.EqualFunc(a, b, slices.Equal)
}

func back(s api.Seg) api.Seg {
	return seg(s.B, s.A)
}

// shuffled has the same segments in another order, some of them the other way round.
func shuffled(r *rand.Rand, l []api.Seg) []api.Seg {
	l = slices.Clone(l)
	r.Shuffle(len(l), func(i, k int) { l[i], l[k] = l[k], l[i] })
	for i := range l {
		if r.IntN(2) == 0 {
			l[i] = back(l[i])
		}
	}
	return l
}

// What the chapter says, told another way: by looking at all segments for each point, at each two segments, and by a table of who is next to whom, in which the smallest one that is left is gone to.

func wantDegrees(n int, l []api.Seg) ([]int, api.Errno) {
	if n < 0 || n > 1<<20 {
		return nil, api.ErrArg
	}
	left := 2 * len(l)
	var out []int
	for p := range n {
		ends := 0
		for _, s := range l {
			if s.A == s.B {
				return nil, api.ErrArg
			}
			if s.A == p {
				ends++
			}
			if s.B == p {
				ends++
			}
		}
		left -= ends
		out = append(out, ends)
	}
	if left != 0 {
		return nil, api.ErrArg
	}
	return out, api.OK
}

func wantTwice(l []api.Seg) (int, bool) {
	for k, s := range l {
		if slices.Contains(l[:k], s) || slices.Contains(l[:k], back(s)) {
			return k, true
		}
	}
	return 0, false
}

func wantRings(n int, l []api.Seg) ([][]int, int, api.Errno) {
	degrees, e := wantDegrees(n, l)
	if e != api.OK {
		return nil, 0, e
	}
	if i, ok := wantTwice(l); ok {
		return nil, i, api.ErrTwice
	}
	next := make([][]bool, n)
	for p := range next {
		next[p] = make([]bool, n)
		if degrees[p] == 1 || degrees[p] > 2 {
			return nil, p, api.ErrRing
		}
	}
	for _, s := range l {
		next[s.A][s.B], next[s.B][s.A] = true, true
	}
	var out [][]int
	left := make([]bool, n)
	for p := range n {
		left[p] = degrees[p] == 2
	}
	for p := range n {
		var ring []int
		for q := p; q >= 0 && left[q]; {
			left[q] = false
			ring = append(ring, q)
			row := next[q]
			q = -1
			for r := range n {
				if row[r] && left[r] && q < 0 {
					q = r
				}
			}
		}
		if len(ring) > 0 {
			out = append(out, ring)
		}
	}
	return out, 0, api.OK
}

func wantSegs(l [][]int) []api.Seg {
	var out []api.Seg
	for _, ring := range l {
		if len(ring) > 0 {
			for i := 1; i < len(ring); i++ {
				out = append(out, seg(ring[i-1], ring[i]))
			}
			out = append(out, seg(ring[len(ring)-1], ring[0]))
		}
	}
	return out
}

func fits(p api.Point) bool {
	const most = 4294967296
	return -most <= p.X && p.X <= most && -most <= p.Y && p.Y <= most
}

// wantArea has the exact sum of the triangles that the first point makes with each segment.
func wantArea(p []api.Point, ring []int) (string, api.Errno) {
	sum := new(big.Int)
	if len(ring) > 1<<20 {
		return "0", api.ErrArg
	}
	for _, i := range ring {
		if i < 0 || i >= len(p) || !fits(p[i]) {
			return "0", api.ErrArg
		}
	}
	for k := 2; k < len(ring); k++ {
		o, a, b := p[ring[0]], p[ring[k-1]], p[ring[k]]
		sum.Add(sum, product(a.X-o.X, b.Y-o.Y))
		sum.Sub(sum, product(b.X-o.X, a.Y-o.Y))
	}
	return sum.String(), api.OK
}

func product(x, y int) *big.Int {
	return new(big.Int).Mul(big.NewInt(int64(x)), big.NewInt(int64(y)))
}

// checkDegrees wants exactly this answer, and l to stay as it is.
func checkDegrees(t *testing.T, n int, l []api.Seg, want []int, e api.Errno) {
	t.Helper()
	kept := slices.Clone(l)
	if got, gotE := rings.Degrees(n, l); !slices.Equal(got, want) || gotE != e {
		t.Fatalf("Degrees(%d, %v) = %v, %d, want %v, %d", n, l, got, gotE, want, e)
	}
	if !slices.Equal(l, kept) {
		t.Fatalf("%v was changed to %v", kept, l)
	}
}

// checkRings wants exactly this answer, and l to stay as it is.
func checkRings(t *testing.T, n int, l []api.Seg, want [][]int, i int, e api.Errno) {
	t.Helper()
	kept := slices.Clone(l)
	if got, gotI, gotE := rings.Rings(n, l); !sameRings(got, want) || gotI != i || gotE != e {
		t.Fatalf("Rings(%d, %v) = %v, %d, %d, want %v, %d, %d", n, l, got, gotI, gotE, want, i, e)
	}
	if !slices.Equal(l, kept) {
		t.Fatalf("%v was changed to %v", kept, l)
	}
}

// check holds Degrees and Rings against what the chapter says, and the rings against its properties.
func check(t *testing.T, n int, l []api.Seg) {
	t.Helper()
	degrees, e := wantDegrees(n, l)
	checkDegrees(t, n, l, degrees, e)
	want, i, e := wantRings(n, l)
	checkRings(t, n, l, want, i, e)
	if e == api.OK {
		checkProperties(t, degrees, l)
	}
}

// checkProperties wants each point with two ends in exactly one ring, once, the rings by their first points, each in its only form, and their segments to be the given ones.
func checkProperties(t *testing.T, degrees []int, l []api.Seg) {
	t.Helper()
	got, _, _ := rings.Rings(len(degrees), l)
	times := make([]int, len(degrees))
	last := -1
	for _, ring := range got {
		if len(ring) < 3 || ring[0] != slices.Min(ring) || ring[0] <= last || ring[1] >= ring[len(ring)-1] {
			t.Fatalf("%v is not a ring as it should be, or not at its place in %v", ring, got)
		}
		last = ring[0]
		for _, p := range ring {
			times[p]++
		}
	}
	for p, ends := range degrees {
		if 2*times[p] != ends {
			t.Fatalf("point %d with %d ends is %d times in %v", p, ends, times[p], got)
		}
	}
	around := rings.Segs(got...)
	if len(around) != len(l) {
		t.Fatalf("%v has the segments %v, which are not %v", got, around, l)
	}
	for _, s := range l {
		if !slices.Contains(around, s) && !slices.Contains(around, back(s)) {
			t.Fatalf("%v is not in %v", s, got)
		}
	}
}

// checkSegs wants what the chapter says, and the rings to stay as they are.
func checkSegs(t *testing.T, l ...[]int) {
	t.Helper()
	var kept [][]int
	for _, ring := range l {
		kept = append(kept, slices.Clone(ring))
	}
	if got, want := rings.Segs(l...), wantSegs(l); !slices.Equal(got, want) {
		t.Fatalf("Segs(%v) = %v, want %v", l, got, want)
	}
	if !sameRings(l, kept) {
		t.Fatalf("%v was changed to %v", kept, l)
	}
}

// checkArea wants exactly this answer, and the arguments to stay as they are.
func checkArea(t *testing.T, p []api.Point, ring []int, want string, e api.Errno) {
	t.Helper()
	keptP, keptRing := slices.Clone(p), slices.Clone(ring)
	got, gotE := rings.Area(p, ring)
	if wide.Text(got) != want || gotE != e {
		t.Fatalf("Area of %d points, %d numbers = %s, %d, want %s, %d", len(p), len(ring), wide.Text(got), gotE, want, e)
	}
	if want == "0" && got != (api.Wide{}) {
		t.Fatalf("Area is %v, but not the zero Wide", got)
	}
	if !slices.Equal(p, keptP) || !slices.Equal(ring, keptRing) {
		t.Fatalf("%v, %v were changed to %v, %v", keptP, keptRing, p, ring)
	}
}

// checkExact holds Area against what the chapter says.
func checkExact(t *testing.T, p []api.Point, ring []int) {
	t.Helper()
	want, e := wantArea(p, ring)
	checkArea(t, p, ring, want, e)
}

func TestExamples(t *testing.T) {
	l := segs(5, 3, 3, 0, 0, 5, 6, 1, 1, 2, 2, 6)
	checkRings(t, 7, l, loopsOf([]int{0, 3, 5}, []int{1, 2, 6}), 0, api.OK)
	checkArea(t, points(0, 0, 4, 0, 0, 4), []int{0, 1, 2}, "16", api.OK)
	// Of README.md.
	checkDegrees(t, 7, l, []int{2, 2, 2, 2, 0, 2, 2}, api.OK)
	if got := rings.Segs([]int{0, 3, 5}, []int{1, 2, 6}); !slices.Equal(got, segs(0, 3, 3, 5, 5, 0, 1, 2, 2, 6, 6, 1)) {
		t.Error("Segs", got)
	}
}

func TestDegrees(t *testing.T) {
	for _, x := range []struct {
		n    int
		l    []api.Seg
		want []int
	}{
		{0, nil, nil}, {1, nil, []int{0}}, {4, nil, []int{0, 0, 0, 0}}, {2, segs(0, 1), []int{1, 1}}, {2, segs(1, 0), []int{1, 1}},
		{4, segs(0, 1, 1, 3), []int{1, 2, 0, 1}}, {4, segs(0, 1, 0, 2, 0, 3), []int{3, 1, 1, 1}}, {4, segs(1, 3, 2, 3, 0, 3), []int{1, 1, 1, 3}},
		// Each segment counts, also the same one again, whatever Rings says of it.
		{3, segs(0, 2, 0, 2), []int{2, 0, 2}}, {3, segs(0, 2, 2, 0), []int{2, 0, 2}}, {3, segs(1, 2, 2, 1, 1, 2, 2, 1), []int{0, 4, 4}},
	} {
		checkDegrees(t, x.n, x.l, x.want, api.OK)
	}
	// Every point, up to the last one that there may be.
	degrees, e := rings.Degrees(api.MaxBytes, segs(api.MaxBytes-1, 0))
	if len(degrees) != 1048576 || e != api.OK || degrees[0] != 1 || degrees[1] != 0 || degrees[api.MaxBytes-1] != 1 {
		t.Errorf("Degrees has %d elements, error %d", len(degrees), e)
	}
}

// refused are calls with something that may not be.
func refused() []struct {
	n int
	l []api.Seg
} {
	const most = api.MaxBytes
	return []struct {
		n int
		l []api.Seg
	}{
		// No number of points.
		{-1, nil}, {-1, segs(0, 1)}, {-1, segs(-1, -2)}, {most + 1, nil}, {most + 1, segs(0, 1)}, {-most, nil}, {1 << 32, nil}, {math.MinInt, nil}, {math.MaxInt, nil}, {math.MaxInt, segs(0, 1)},
		// An end that is no point.
		{0, segs(0, 1)}, {1, segs(0, 1)}, {1, segs(1, 0)}, {2, segs(0, 2)}, {2, segs(2, 0)}, {2, segs(-1, 1)}, {2, segs(1, -1)}, {3, segs(3, 4)}, {3, segs(-2, -1)},
		{3, segs(0, math.MaxInt)}, {3, segs(math.MinInt, 0)}, {3, segs(math.MinInt, math.MaxInt)}, {most, segs(0, most)}, {most, segs(most, 0)}, {3, segs(0, 1<<32)},
		// Both the same.
		{1, segs(0, 0)}, {2, segs(1, 1)}, {3, segs(2, 2)}, {0, segs(0, 0)}, {2, segs(-1, -1)}, {2, segs(2, 2)}, {most, segs(most-1, most-1)},
		// After others that are right, and ahead of them.
		{3, segs(0, 1, 1, 2, 2, 0, 0, 3)}, {3, segs(0, 1, 1, 2, 2, 0, 1, 1)}, {3, segs(0, 1, 1, 2, 2, 0, -1, 0)}, {3, segs(3, 0, 0, 1, 1, 2, 2, 0)}, {3, segs(0, 0, 0, 1, 1, 2, 2, 0)},
	}
}

func TestWrongArguments(t *testing.T) {
	for _, x := range refused() {
		checkDegrees(t, x.n, x.l, nil, api.ErrArg)
		checkRings(t, x.n, x.l, nil, 0, api.ErrArg)
	}
}

func TestRings(t *testing.T) {
	for _, x := range []struct {
		n    int
		l    []api.Seg
		want [][]int
	}{
		// Nothing, and points without segments.
		{0, nil, nil}, {1, nil, nil}, {5, nil, nil}, {api.MaxBytes, nil, nil},
		// One loop, with its segments in several orders and ways: the smaller neighbour of the first point is the next one.
		{3, segs(0, 1, 1, 2, 2, 0), loopsOf([]int{0, 1, 2})}, {3, segs(0, 2, 2, 1, 1, 0), loopsOf([]int{0, 1, 2})}, {3, segs(2, 1, 0, 2, 0, 1), loopsOf([]int{0, 1, 2})},
		{4, segs(0, 3, 3, 1, 1, 2, 2, 0), loopsOf([]int{0, 2, 1, 3})}, {4, segs(0, 2, 2, 3, 3, 1, 1, 0), loopsOf([]int{0, 1, 3, 2})}, {5, segs(4, 3, 3, 1, 1, 2, 2, 4), loopsOf([]int{1, 2, 4, 3})},
		{6, segs(5, 1, 1, 4, 4, 2, 2, 5), loopsOf([]int{1, 4, 2, 5})},
		// Points of none before, between and after.
		{9, segs(7, 2, 2, 4, 4, 7), loopsOf([]int{2, 4, 7})}, {4, segs(1, 2, 2, 3, 3, 1), loopsOf([]int{1, 2, 3})}, {4, segs(0, 1, 1, 2, 2, 0), loopsOf([]int{0, 1, 2})},
		// Several, by their first points, whatever comes first in l.
		{6, segs(3, 4, 4, 5, 5, 3, 0, 1, 1, 2, 2, 0), loopsOf([]int{0, 1, 2}, []int{3, 4, 5})}, {6, segs(5, 0, 1, 2, 0, 3, 2, 4, 3, 5, 4, 1), loopsOf([]int{0, 3, 5}, []int{1, 2, 4})},
		{7, segs(6, 1, 1, 2, 2, 6, 5, 3, 3, 0, 0, 5), loopsOf([]int{0, 3, 5}, []int{1, 2, 6})},
		{10, segs(9, 8, 8, 7, 7, 9, 2, 4, 4, 0, 0, 6, 6, 2, 1, 3, 3, 5, 5, 1), loopsOf([]int{0, 4, 2, 6}, []int{1, 3, 5}, []int{7, 8, 9})},
		// The last point that there may be.
		{api.MaxBytes, segs(0, api.MaxBytes-1, api.MaxBytes-1, 5, 5, 0), loopsOf([]int{0, 5, api.MaxBytes - 1})},
	} {
		checkRings(t, x.n, x.l, x.want, 0, api.OK)
	}
}

func TestTwice(t *testing.T) {
	for _, x := range []struct {
		n int
		l []api.Seg
		i int
	}{
		{2, segs(0, 1, 0, 1), 1}, {2, segs(0, 1, 1, 0), 1}, {2, segs(1, 0, 0, 1), 1}, {2, segs(1, 0, 1, 0), 1}, {2, segs(0, 1, 0, 1, 0, 1), 1},
		// Not side by side; the later one of them is told.
		{3, segs(0, 1, 1, 2, 2, 0, 1, 0), 3}, {3, segs(0, 1, 1, 2, 2, 0, 0, 2), 3}, {4, segs(2, 3, 0, 1, 0, 2, 3, 2, 1, 2), 3},
		// Of several the first one that has an earlier one, not the one whose earlier one comes first.
		{4, segs(0, 1, 2, 3, 3, 2, 1, 0), 2}, {4, segs(0, 1, 2, 3, 1, 0, 3, 2), 2}, {4, segs(0, 1, 2, 3, 1, 3, 3, 1, 0, 1), 3}, {5, segs(3, 4, 0, 1, 1, 0, 4, 3, 0, 1), 2},
		// A point with some other number of ends is told only if there is no such segment.
		{9, segs(5, 6, 7, 8, 8, 7), 2}, {4, segs(0, 1, 0, 2, 0, 3, 3, 0), 3}, {4, segs(3, 2, 2, 1, 1, 2), 2},
	} {
		checkRings(t, x.n, x.l, nil, x.i, api.ErrTwice)
		check(t, x.n, x.l)
	}
	// One end the same, or sums and products of ends: these are different segments.
	checkRings(t, 5, segs(0, 4, 1, 3, 0, 3, 1, 4), loopsOf([]int{0, 3, 1, 4}), 0, api.OK)
	checkRings(t, 7, segs(0, 6, 1, 5, 2, 4, 0, 5, 1, 4, 2, 6), loopsOf([]int{0, 5, 1, 4, 2, 6}), 0, api.OK)
	checkRings(t, 13, segs(1, 12, 2, 6, 3, 4, 1, 6, 2, 4, 3, 12), loopsOf([]int{1, 6, 2, 4, 3, 12}), 0, api.OK)
}

func TestNoRing(t *testing.T) {
	for _, x := range []struct {
		n int
		l []api.Seg
		p int
	}{
		// One end, three ends, four ends: two loops through one point.
		{2, segs(0, 1), 0}, {3, segs(2, 1), 1}, {3, segs(0, 1, 1, 2), 0}, {4, segs(3, 1, 1, 2), 2}, {4, segs(0, 1, 1, 2, 2, 0, 2, 3), 2}, {4, segs(0, 1, 1, 2, 2, 0, 0, 3), 0},
		{5, segs(0, 1, 1, 2, 2, 0, 2, 3, 3, 4, 4, 2), 2}, {4, segs(3, 0, 3, 1, 3, 2), 0}, {4, segs(0, 1, 1, 2, 2, 0, 1, 3), 1}, {6, segs(1, 2, 2, 5, 5, 1, 5, 3), 3},
		// The smallest one, not the first one in l.
		{9, segs(8, 7, 6, 5, 3, 4), 3}, {9, segs(8, 7, 7, 6, 6, 8, 5, 4), 4}, {7, segs(6, 0, 0, 1, 1, 2, 2, 0), 0}, {7, segs(6, 1, 0, 1, 1, 2, 2, 0), 1}, {7, segs(6, 5, 0, 1, 1, 2, 2, 0), 5},
		{api.MaxBytes, segs(api.MaxBytes-1, api.MaxBytes-2), api.MaxBytes - 2},
		// The crossing of a square.
		{4, segs(0, 1, 1, 2, 2, 3, 3, 0, 1, 3), 1}, {4, segs(0, 1, 1, 2, 2, 3, 3, 0, 0, 2), 0}, {4, segs(0, 1, 1, 2, 2, 3, 3, 0, 0, 2, 1, 3), 0},
	} {
		checkRings(t, x.n, x.l, nil, x.p, api.ErrRing)
	}
}

// R1: wrong arguments are told ahead of a segment that is there twice, and that ahead of a point where no loop goes through.
func TestOrderOfErrors(t *testing.T) {
	checkRings(t, -1, segs(0, 1, 0, 1), nil, 0, api.ErrArg)
	checkRings(t, 4, segs(0, 1, 1, 0, 2, 2), nil, 0, api.ErrArg)
	checkRings(t, 4, segs(0, 1, 1, 0, 2, 4), nil, 0, api.ErrArg)
	checkRings(t, 4, segs(0, 1, 2, 2), nil, 0, api.ErrArg)
	checkRings(t, 4, segs(2, 2, 2, 2), nil, 0, api.ErrArg)
	checkRings(t, 4, segs(0, 9, 9, 0), nil, 0, api.ErrArg)
	checkRings(t, 4, segs(2, 1, 0, 3, 3, 0), nil, 2, api.ErrTwice)
	checkRings(t, 4, segs(0, 1, 0, 2, 0, 3, 3, 2, 2, 3), nil, 4, api.ErrTwice)
}

// sequences calls f with all lists of at most that many of these segments.
func sequences(l []api.Seg, most int, f func(l []api.Seg)) {
	var grow func(row []api.Seg)
	grow = func(row []api.Seg) {
		f(row)
		if len(row) < most {
			for _, s := range l {
				grow(append(slices.Clone(row), s))
			}
		}
	}
	grow(nil)
}

// P1, P5: all short lists, with ends that are no points on both sides.
func TestAllShortLists(t *testing.T) {
	for _, x := range []struct{ n, least, most, length int }{{-1, -1, 1, 2}, {0, -1, 1, 3}, {1, -1, 1, 3}, {2, -1, 2, 3}, {3, -1, 3, 3}, {3, 0, 2, 4}, {4, 0, 3, 3}, {5, -1, 5, 2}} {
		var all []api.Seg
		for a := x.least; a <= x.most; a++ {
			for b := x.least; b <= x.most; b++ {
				all = append(all, seg(a, b))
			}
		}
		sequences(all, x.length, func(l []api.Seg) { check(t, x.n, l) })
	}
}

// All choices of segments between up to six points, in some order, some the other way round. As many are right as there are ways to lay loops through some of the points.
func TestAllChoices(t *testing.T) {
	r := rand.New(rand.NewPCG(81, 1))
	ways := []int{1, 1, 1, 2, 8, 38, 208}
	for n, want := range ways {
		var all []api.Seg
		for a := range n {
			for b := range a {
				all = append(all, seg(a, b))
			}
		}
		right := 0
		for choice := range 1 << len(all) {
			var l []api.Seg
			for i, s := range all {
				if choice>>i&1 == 1 {
					l = append(l, s)
				}
			}
			l = shuffled(r, l)
			check(t, n, l)
			if _, _, e := rings.Rings(n, l); e == api.OK {
				right++
			}
		}
		if right != want {
			t.Errorf("of the choices between %d points %d are loops, want %d", n, right, want)
		}
	}
}

// drawnRings lays loops through some of n points.
func drawnRings(r *rand.Rand, n int) [][]int {
	var l [][]int
	for left := r.Perm(n)[:r.IntN(n+1)]; len(left) > 2; {
		k := 3 + r.IntN(len(left)-2)
		if r.IntN(2) == 0 {
			k = min(k, 5)
		}
		l, left = append(l, left[:k]), left[k:]
	}
	return l
}

// ordered has the loops as the chapter wants them: each one turned and, if need be, the other way round; by their first points.
func ordered(l [][]int) [][]int {
	var out [][]int
	for _, ring := range l {
		least := slices.Index(ring, slices.Min(ring))
		ring = slices.Concat(ring[least:], ring[:least])
		if ring[1] > ring[len(ring)-1] {
			slices.Reverse(ring[1:])
		}
		out = append(out, ring)
	}
	slices.SortFunc(out, slices.Compare)
	return out
}

// draws calls f with loops through points, the same ones in each run.
func draws(n int, f func(r *rand.Rand, n int, l [][]int)) {
	r := rand.New(rand.NewPCG(81, 2))
	for range n {
		points := r.IntN(40)
		f(r, points, drawnRings(r, points))
	}
}

func TestDrawnRings(t *testing.T) {
	several := 0
	draws(6000, func(r *rand.Rand, n int, l [][]int) {
		given := shuffled(r, rings.Segs(l...))
		check(t, n, given)
		checkRings(t, n, given, ordered(l), 0, api.OK)
		if len(l) > 2 {
			several++
		}
	})
	if several < 1000 || several > 5000 {
		t.Errorf("of 6000 draws %d had more than two loops", several)
	}
}

// P5: loops that are spoilt in one place or two, of each kind.
func TestDrawnFaults(t *testing.T) {
	found := map[api.Errno]int{}
	draws(12000, func(r *rand.Rand, n int, l [][]int) {
		given := shuffled(r, rings.Segs(l...))
		if len(given) == 0 {
			return
		}
		for range 1 + r.IntN(2) {
			i := r.IntN(len(given))
			switch r.IntN(6) {
			case 0: // One is missing.
				given = slices.Delete(given, i, i+1)
			case 1: // One is there twice.
				given = slices.Insert(given, r.IntN(len(given)+1), given[r.IntN(len(given))])
			case 2: // The same the other way round.
				given = slices.Insert(given, r.IntN(len(given)+1), back(given[r.IntN(len(given))]))
			case 3: // One too many, maybe from a point to itself.
				given = slices.Insert(given, r.IntN(len(given)+1), seg(r.IntN(n), r.IntN(n)))
			case 4: // One leads elsewhere.
				given[i].A = r.IntN(n)
			case 5: // One leads to no point, now and then.
				if r.IntN(3) == 0 {
					given[i].B = []int{-1, n, math.MinInt, math.MaxInt}[r.IntN(4)]
				}
			}
		}
		check(t, n, given)
		_, _, e := rings.Rings(n, given)
		found[e]++
	})
	for _, e := range []api.Errno{api.OK, api.ErrArg, api.ErrTwice, api.ErrRing} {
		if found[e] < 500 {
			t.Errorf("of 12000 draws %d had error %d", found[e], e)
		}
	}
}

// P5: of a great loop, each segment twice, each point with an end too many or too few.
func TestEachPlace(t *testing.T) {
	const n = 60
	l := round(0, n)
	checkRings(t, n, l, loopsOf(rising(0, n)), 0, api.OK)
	for i, s := range l {
		for k := range len(l) + 1 {
			checkRings(t, n, slices.Insert(slices.Clone(l), k, back(s)), nil, max(k, i+btoi(k <= i)), api.ErrTwice)
		}
		checkRings(t, n, slices.Delete(slices.Clone(l), i, i+1), nil, min(s.A, s.B), api.ErrRing)
		checkRings(t, n+1, append(slices.Clone(l), seg(n, s.A)), nil, s.A, api.ErrRing)
		checkRings(t, n, append(slices.Clone(l), seg(n, s.A)), nil, 0, api.ErrArg)
	}
}

func btoi(b bool) int {
	if b {
		return 1
	}
	return 0
}

// As many points as there may be: in one loop, and in many.
func TestMostPoints(t *testing.T) {
	const most = api.MaxBytes
	r := rand.New(rand.NewPCG(81, 3))
	checkRings(t, most, shuffled(r, round(0, most)), loopsOf(rising(0, most)), 0, api.OK)
	var l []api.Seg
	var want [][]int
	for p := most % 3; p < most; p += 3 {
		l = append(l, round(p, p+3)...)
		want = append(want, rising(p, p+3))
	}
	l = shuffled(r, l)
	checkRings(t, most, l, want, 0, api.OK)
	checkRings(t, most, append(l, seg(0, most-1)), nil, 0, api.ErrRing)
	checkRings(t, most, append(l, back(l[0])), nil, len(l), api.ErrTwice)
	checkRings(t, most, append(l, seg(0, most)), nil, 0, api.ErrArg)
	checkRings(t, most+1, l, nil, 0, api.ErrArg)
}

// P4: other numbers of the points change the loops' numbers alone.
func TestOtherNumbers(t *testing.T) {
	draws(3000, func(r *rand.Rand, n int, l [][]int) {
		names := r.Perm(n)
		var named [][]int
		for _, ring := range l {
			var other []int
			for _, p := range ring {
				other = append(other, names[p])
			}
			named = append(named, other)
		}
		given := shuffled(r, rings.Segs(l...))
		var other []api.Seg
		for _, s := range given {
			other = append(other, seg(names[s.A], names[s.B]))
		}
		checkRings(t, n, other, ordered(named), 0, api.OK)
		degrees, _ := rings.Degrees(n, given)
		renamed, e := rings.Degrees(n, other)
		if e != api.OK || len(renamed) != n {
			t.Fatal(renamed, e)
		}
		for p, ends := range degrees {
			if renamed[names[p]] != ends {
				t.Fatalf("point %d has %d ends, but as %d it has %d", p, ends, names[p], renamed[names[p]])
			}
		}
	})
}

func TestSegs(t *testing.T) {
	for _, x := range []struct {
		rings [][]int
		want  []api.Seg
	}{
		{nil, nil}, {loopsOf(nil), nil}, {loopsOf([]int{}), nil}, {loopsOf(nil, []int{}, nil), nil},
		{loopsOf([]int{7}), segs(7, 7)}, {loopsOf([]int{3, 5}), segs(3, 5, 5, 3)}, {loopsOf([]int{3, 3}), segs(3, 3, 3, 3)}, {loopsOf([]int{2, 0, 1}), segs(2, 0, 0, 1, 1, 2)},
		{loopsOf([]int{0, 1, 2, 3}), segs(0, 1, 1, 2, 2, 3, 3, 0)}, {loopsOf([]int{3, 2, 1, 0}), segs(3, 2, 2, 1, 1, 0, 0, 3)},
		// One after the other, in their order; empty ones between.
		{loopsOf([]int{4, 5, 6}, []int{0, 1, 2}), segs(4, 5, 5, 6, 6, 4, 0, 1, 1, 2, 2, 0)}, {loopsOf(nil, []int{1}, nil, []int{2, 3}, []int{}), segs(1, 1, 2, 3, 3, 2)},
		{loopsOf([]int{0, 1, 2}, []int{0, 1, 2}), segs(0, 1, 1, 2, 2, 0, 0, 1, 1, 2, 2, 0)},
		// Any numbers: no point is asked for.
		{loopsOf([]int{-1, math.MaxInt, math.MinInt}), segs(-1, math.MaxInt, math.MaxInt, math.MinInt, math.MinInt, -1)}, {loopsOf([]int{1, 2, 1, 3}), segs(1, 2, 2, 1, 1, 3, 3, 1)},
	} {
		if got := rings.Segs(x.rings...); !slices.Equal(got, x.want) {
			t.Errorf("Segs(%v) = %v, want %v", x.rings, got, x.want)
		}
		checkSegs(t, x.rings...)
	}
	if got := rings.Segs(); len(got) != 0 {
		t.Errorf("Segs() = %v", got)
	}
	r := rand.New(rand.NewPCG(81, 4))
	for range 3000 {
		var l [][]int
		for range r.IntN(5) {
			var ring []int
			for range r.IntN(7) {
				ring = append(ring, r.IntN(20)-5)
			}
			l = append(l, ring)
		}
		checkSegs(t, l...)
	}
}

func TestArea(t *testing.T) {
	square := points(0, 0, 4, 0, 4, 4, 0, 4)
	for _, x := range []struct {
		p    []api.Point
		ring []int
		want string
	}{
		// Counterclockwise and clockwise, from each point on.
		{square, []int{0, 1, 2, 3}, "32"}, {square, []int{2, 3, 0, 1}, "32"}, {square, []int{3, 2, 1, 0}, "-32"}, {square, []int{0, 3, 2, 1}, "-32"},
		{square, []int{0, 1, 2}, "16"}, {square, []int{1, 0, 2}, "-16"}, {square, []int{2, 1, 3}, "-16"}, {square, []int{1, 2, 3}, "16"},
		// Fewer than three.
		{square, nil, "0"}, {square, []int{}, "0"}, {nil, nil, "0"}, {square, []int{2}, "0"}, {square, []int{1, 2}, "0"}, {square, []int{2, 2}, "0"},
		// Nothing inside, or as much on either side.
		{square, []int{1, 1, 1}, "0"}, {square, []int{0, 1, 0}, "0"}, {square, []int{0, 2, 0, 2}, "0"}, {square, []int{0, 1, 3, 2}, "0"}, {points(0, 0, 1, 1, 2, 2), []int{0, 1, 2}, "0"},
		{points(-3, 7, 5, 7, 1, 7), []int{0, 1, 2}, "0"}, {points(7, -3, 7, 5, 7, 1), []int{2, 0, 1}, "0"},
		// Round twice; a point of its own twice; a dent; an odd number.
		{square, []int{0, 1, 2, 3, 0, 1, 2, 3}, "64"}, {square, []int{0, 0, 1, 1, 2, 2, 3, 3}, "32"}, {append(square, at(1, 2)), []int{0, 1, 2, 3, 4}, "28"}, {points(0, 0, 1, 0, 0, 1), []int{0, 1, 2}, "1"},
		{points(0, 0, 1, 0, 0, 1), []int{2, 1, 0}, "-1"}, {points(-1, -1, -3, -1, -1, -4), []int{0, 1, 2}, "6"},
		// Points that do not count may be anywhere.
		{points(0, 0, math.MaxInt, math.MinInt, 4, 0, 0, 4, api.Bound+1, 0), []int{0, 2, 3}, "16"},
	} {
		checkArea(t, x.p, x.ring, x.want, api.OK)
		checkExact(t, x.p, x.ring)
	}
}

// P2: the whole plane, in which no int has room for the area, and no 64 bits for a product.
func TestGreatAreas(t *testing.T) {
	const b = api.Bound
	p := points(-b, -b, b, -b, b, b, -b, b)
	checkArea(t, p, []int{0, 1, 2, 3}, "147573952589676412928", api.OK)
	checkArea(t, p, []int{3, 2, 1, 0}, "-147573952589676412928", api.OK)
	checkArea(t, p, []int{0, 1, 2}, "73786976294838206464", api.OK)
	checkArea(t, p, []int{0, 2, 1}, "-73786976294838206464", api.OK)
	// A great area but for a little, on either side of 0.
	thin := points(-b, -b, b, b, b, b-1)
	checkArea(t, thin, []int{0, 1, 2}, "-8589934592", api.OK)
	checkArea(t, thin, []int{0, 2, 1}, "8589934592", api.OK)
	checkArea(t, points(-b, -b, 0, 0, b-1, b-2, b, b-1), []int{0, 1, 2}, "-4294967296", api.OK)
	checkArea(t, points(-b, -b, -b+1, -b+1, b, b-1), []int{0, 1, 2}, "-1", api.OK)
	checkArea(t, points(b, b, b-1, b-1, -b, -b+1), []int{0, 1, 2}, "-1", api.OK)
	// As many numbers as there may be, round and round: more than 2^86.
	var ring []int
	for range api.MaxBytes / 4 {
		ring = append(ring, 0, 1, 2, 3)
	}
	checkArea(t, p, ring, "38685626227668133590597632", api.OK)
	slices.Reverse(ring)
	checkArea(t, p, ring, "-38685626227668133590597632", api.OK)
	checkArea(t, p, append(ring, 0), "0", api.ErrArg)
	checkArea(t, p, append(ring, 4), "0", api.ErrArg)
	checkArea(t, nil, make([]int, api.MaxBytes+1), "0", api.ErrArg)
	checkArea(t, points(1, 1), make([]int, api.MaxBytes), "0", api.OK)
	checkArea(t, points(1, 1), make([]int, api.MaxBytes+1), "0", api.ErrArg)
	// More points than that are no fault.
	checkArea(t, make([]api.Point, api.MaxBytes+9), []int{api.MaxBytes + 8, 0, 1}, "0", api.OK)
}

func TestAreaOfWrongArguments(t *testing.T) {
	const b = api.Bound
	p := points(0, 0, 4, 0, 4, 4, 0, 4)
	for _, ring := range [][]int{
		{4}, {-1}, {0, 4}, {4, 0}, {0, -1}, {0, 1, 4}, {0, 1, 2, -1}, {4, 0, 1, 2}, {0, 1, 2, 3, 4}, {math.MinInt, 0, 1}, {0, math.MaxInt, 1}, {0, 1, 1 << 32}, {-4, 0, 1}, {0, 1, 2, 3, 0, 1, 2, 3, 4},
	} {
		checkArea(t, p, ring, "0", api.ErrArg)
	}
	checkArea(t, nil, []int{0}, "0", api.ErrArg)
	checkArea(t, nil, []int{0, 1, 2}, "0", api.ErrArg)
	// Points that do not fit, just so and by far, at each place of the ring; and those that just fit.
	for _, q := range points(b+1, 0, 0, b+1, -b-1, 0, 0, -b-1, b+1, b+1, math.MaxInt, 0, 0, math.MinInt, math.MinInt, math.MinInt, -b-1, b) {
		checkArea(t, []api.Point{q}, []int{0}, "0", api.ErrArg)
		checkArea(t, []api.Point{q}, []int{0, 0, 0}, "0", api.ErrArg)
		for i := range p {
			spoilt := slices.Clone(p)
			spoilt[i] = q
			checkArea(t, spoilt, []int{0, 1, 2, 3}, "0", api.ErrArg)
			checkArea(t, spoilt, []int{i}, "0", api.ErrArg)
			checkArea(t, spoilt, []int{(i + 1) % 4, i}, "0", api.ErrArg)
			if _, e := rings.Area(spoilt, []int{(i + 1) % 4, (i + 2) % 4, (i + 3) % 4}); e != api.OK {
				t.Errorf("Area = %d, though %v is not in the ring", e, q)
			}
		}
	}
	for _, q := range points(b, 0, 0, b, -b, 0, 0, -b, b, b, -b, b, b, -b, -b, -b) {
		for i := range p {
			right := slices.Clone(p)
			right[i] = q
			checkExact(t, right, []int{0, 1, 2, 3})
			checkExact(t, right, []int{3, 1, 2})
			checkExact(t, right, []int{i})
		}
	}
}

// drawnPoints are near to each other or far; some of them do not fit, if they need not.
func drawnPoints(r *rand.Rand, n int, size int, fitting bool) []api.Point {
	p := make([]api.Point, n)
	for i := range p {
		p[i] = at(r.IntN(2*size+1)-size, r.IntN(2*size+1)-size)
		if !fitting && r.IntN(40) == 0 {
			p[i].Y = []int{api.Bound + 1, -api.Bound - 1, math.MaxInt, math.MinInt}[r.IntN(4)]
		}
	}
	return p
}

func drawnRing(r *rand.Rand, n int) []int {
	var ring []int
	for range r.IntN(15) {
		ring = append(ring, r.IntN(n))
	}
	return ring
}

func TestDrawnAreas(t *testing.T) {
	r := rand.New(rand.NewPCG(81, 5))
	wrong := 0
	for range 20000 {
		p := drawnPoints(r, 1+r.IntN(20), 1<<r.IntN(33), false)
		ring := drawnRing(r, len(p))
		if len(ring) > 0 && r.IntN(10) == 0 {
			ring[r.IntN(len(ring))] = []int{-1, len(p), math.MinInt, math.MaxInt}[r.IntN(4)]
		}
		checkExact(t, p, ring)
		if _, e := rings.Area(p, ring); e != api.OK {
			wrong++
		}
	}
	if wrong < 2000 || wrong > 10000 {
		t.Errorf("%d of 20000 draws were wrong", wrong)
	}
}

// All rings of at most five numbers over the places of a small grid.
func TestAreasOfAllShortRings(t *testing.T) {
	var p []api.Point
	for x := -1; x <= 1; x++ {
		for y := -1; y <= 1; y++ {
			p = append(p, at(x, y))
		}
	}
	var grow func(ring []int)
	grow = func(ring []int) {
		checkExact(t, p, ring)
		if len(ring) < 5 {
			for i := range p {
				grow(append(slices.Clone(ring), i))
			}
		}
	}
	grow(nil)
}

// P4: neither translation nor a quarter turn changes an area, nor do other numbers of the points, nor another first point; the other way round it changes its sign.
func TestAreaElsewhere(t *testing.T) {
	r := rand.New(rand.NewPCG(81, 6))
	for range 5000 {
		size := 1 << r.IntN(32)
		p := drawnPoints(r, 1+r.IntN(12), size, true)
		ring := drawnRing(r, len(p))
		want, e := wantArea(p, ring)
		if e != api.OK {
			t.Fatal("a point does not fit")
		}
		free := api.Bound - size
		for _, by := range points(free, free, -free, free, free, -free, -free, -free, 0, 1, -1, 0, r.IntN(free+1), -r.IntN(free+1)) {
			checkArea(t, each(p, func(q api.Point) api.Point { return at(q.X+by.X, q.Y+by.Y) }), ring, want, api.OK)
		}
		turned := p
		for range 4 {
			turned = each(turned, func(q api.Point) api.Point { return at(-q.Y, q.X) })
			checkArea(t, turned, ring, want, api.OK)
		}
		names := r.Perm(len(p))
		renamed, other := make([]api.Point, len(p)), []int(nil)
		for i, name := range names {
			renamed[name] = p[i]
		}
		for _, i := range ring {
			other = append(other, names[i])
		}
		checkArea(t, renamed, other, want, api.OK)
		for range ring {
			ring = append(ring[1:], ring[0])
			checkArea(t, p, ring, want, api.OK)
		}
		got, _ := rings.Area(p, ring)
		slices.Reverse(ring)
		checkArea(t, p, ring, wide.Text(wide.Neg(got)), api.OK)
	}
}

// fill makes all elements x, the ones behind the end too.
func fill[T any](l []T, x T) {
	l = l[:cap(l)]
	for i := range l {
		l[i] = x
	}
}

// checkApart wants all these slices to share no memory, up to their capacities: what is written to one of them, or behind its end, is not seen in another one.
func checkApart[T comparable](t *testing.T, name string, other T, l ...[]T) {
	t.Helper()
	var kept [][]T
	for _, x := range l {
		kept = append(kept, slices.Clone(x))
	}
	for i, x := range l {
		fill(x, other)
		for k, y := range l {
			if k > i && !slices.Equal(y, kept[k]) {
				t.Errorf("%s: %v became %v when another slice changed", name, kept[k], y)
			}
		}
	}
	for i := len(l) - 1; i >= 0; i-- {
		copy(l[i], kept[i])
		for k := i + 1; k < len(l); k++ {
			if !slices.Equal(l[k], kept[k]) {
				t.Errorf("%s: %v became %v when another slice changed back", name, kept[k], l[k])
			}
		}
	}
}

// R2: results are the caller's own, each slice of them; and what is behind the end of an argument is neither read nor written.
func TestResultsAreNewMemory(t *testing.T) {
	room := segs(5, 3, 3, 0, 0, 5, 6, 1, 1, 2, 2, 6, 9, 9, 0, 1)
	for _, length := range []int{0, 3, 6} {
		kept := slices.Clone(room)
		d1, _ := rings.Degrees(7, room[:length])
		d2, e := rings.Degrees(7, room[:length])
		if e != api.OK {
			t.Fatal(e)
		}
		checkApart(t, "Degrees", -1, d1, d2)
		first, _, _ := rings.Rings(7, room[:length])
		second, _, e := rings.Rings(7, room[:length])
		if e != api.OK || len(first) != length/3 || !sameRings(first, second) {
			t.Fatal(first, second, e)
		}
		checkApart(t, "Rings", -1, slices.Concat(first, second)...)
		fill(first, []int{-7})
		if len(second) > 0 && slices.Equal(second[0], []int{-7}) {
			t.Error("two lists of rings share memory")
		}
		if !slices.Equal(room, kept) {
			t.Errorf("%v became %v", kept, room)
		}
	}
	numbers := []int{0, 3, 5, 1, 2, 6, 8, 8}
	kept := slices.Clone(numbers)
	s1, s2 := rings.Segs(numbers[:3], numbers[3:6]), rings.Segs(numbers[:3], numbers[3:6])
	checkApart(t, "Segs", seg(-1, -1), s1, s2)
	p := points(0, 0, 4, 0, 0, 4, 9, 9, 1, 1, 2, 2, 3, 3)
	checkArea(t, p[:3], []int{0, 1, 2, 5}[:3], "16", api.OK)
	checkArea(t, p[:3], []int{0, 1, 2, 3}, "0", api.ErrArg)
	if !slices.Equal(numbers, kept) {
		t.Errorf("%v became %v", kept, numbers)
	}
}

// R4: what was asked ahead changes no answer.
func TestSameAgain(t *testing.T) {
	asked := []struct {
		n int
		l []api.Seg
	}{
		{0, nil}, {3, segs(0, 1, 1, 2, 2, 0)}, {3, segs(2, 1, 0, 2, 0, 1)}, {3, segs(0, 1, 1, 0)}, {3, segs(0, 1)}, {3, segs(0, 3)}, {2, segs(0, 1, 1, 2, 2, 0)}, {7, segs(5, 3, 3, 0, 0, 5, 6, 1, 1, 2, 2, 6)}, {-1, nil},
	}
	for _, x := range asked {
		for _, y := range asked {
			check(t, x.n, x.l)
			check(t, y.n, y.l)
			check(t, x.n, x.l)
			checkArea(t, points(0, 0, 4, 0, 0, 4), []int{0, 1, 2}, "16", api.OK)
			checkArea(t, points(0, 0, 4, 0, 0, 4), []int{0, 1, 3}, "0", api.ErrArg)
		}
	}
}

// R6: nil is as empty as others are.
func TestNilAndEmpty(t *testing.T) {
	for _, l := range [][]api.Seg{nil, {}, segs(0, 1)[:0]} {
		for n := range 4 {
			checkDegrees(t, n, l, make([]int, n), api.OK)
			checkRings(t, n, l, nil, 0, api.OK)
		}
		checkDegrees(t, -1, l, nil, api.ErrArg)
		checkRings(t, -1, l, nil, 0, api.ErrArg)
	}
	for _, l := range [][][]int{nil, {}, {nil}, {{}}, {[]int{1}[:0], nil}} {
		if s := rings.Segs(l...); len(s) != 0 {
			t.Error("Segs", s)
		}
	}
	for _, p := range [][]api.Point{nil, {}, points(1, 2)} {
		for _, ring := range [][]int{nil, {}, []int{0}[:0]} {
			checkArea(t, p, ring, "0", api.OK)
		}
	}
}

func FuzzSegs(f *testing.F) {
	f.Add(7, []byte{5, 3, 3, 0, 0, 5, 6, 1, 1, 2, 2, 6})
	f.Add(3, []byte{0, 1, 1, 0})
	f.Add(3, []byte{0, 1, 1, 1})
	f.Add(-1, []byte{})
	f.Fuzz(func(t *testing.T, n int, b []byte) {
		var l []api.Seg
		for i := 0; i+1 < min(len(b), 100); i += 2 {
			l = append(l, seg(int(b[i])-1, int(b[i+1])-1))
		}
		if n >= 0 && n <= api.MaxBytes {
			n %= 60
		}
		check(t, n, l)
	})
}

func FuzzArea(f *testing.F) {
	f.Add([]byte{1, 2, 3}, 0, 0, 4, 0, 0, 4)
	f.Add([]byte{3, 2, 1, 3, 1}, 0, -1<<32, 1<<32, 5, -1<<32, 1<<32)
	f.Add([]byte{1, 0}, math.MaxInt, math.MinInt, 0, 0, 0, 0)
	f.Fuzz(func(t *testing.T, b []byte, x0, y0, x1, y1, x2, y2 int) {
		var ring []int
		for _, n := range b {
			ring = append(ring, int(n)-1)
		}
		checkExact(t, points(x0, y0, x1, y1, x2, y2), ring)
	})
}
