package faces_test

import (
	"math"
	"math/rand/v2"
	"slices"
	"testing"

	"parquet/api"
	"parquet/faces"
)

// The calls that the chapter lists, with their exact signatures: a change of one does not compile.
var (
	_ func(int, [][]int) api.Errno            = faces.Check
	_ func([][]int) []api.Seg                 = faces.Edges
	_ func([][]int, int, int) int             = faces.Left
	_ func(int, [][]int) ([][]int, api.Errno) = faces.Rims
	_ func([][]int) []int                     = faces.Parts
	_ func([][]int) (int, int, int)           = faces.Count
)

func seg(a, b int) api.Seg {
	return api.Seg{A: a, B: b}
}

// segs has a segment for each two numbers.
func segs(ends ...int) []api.Seg {
	var l []api.Seg
	for i := 0; i < len(ends); i += 2 {
		l = append(l, seg(ends[i], ends[i+1]))
	}
	return l
}

// list has these faces, or loops, as one list.
func list(f ...[]int) [][]int {
	return f
}

// rising has the numbers from to until - 1.
func rising(from, until int) []int {
	var l []int
	for p := from; p < until; p++ {
		l = append(l, p)
	}
	return l
}

func same(a, b [][]int) bool {
	return slices.EqualFunc(a, b, slices.Equal)
}

// copied has new memory for each face too.
func copied(f [][]int) [][]int {
	var out [][]int
	for _, face := range f {
		out = append(out, slices.Clone(face))
	}
	return out
}

// begun is the same face, begun by other points: a point that was k-th is first.
func begun(face []int, k int) []int {
	return slices.Concat(face[k:], face[:k])
}

// What the chapter says, told another way: each two points of a face and each two faces are held against each other; nothing is looked up.

// leads tells whether the face has the edge from a to b.
func leads(face []int, a, b int) bool {
	last := len(face) - 1
	for i := range last {
		if face[i] == a && face[i+1] == b {
			return true
		}
	}
	return last >= 0 && face[last] == a && face[0] == b
}

// edges has the two points of each edge of a face.
func edges(face []int) []api.Seg {
	var l []api.Seg
	for i := 1; i < len(face); i++ {
		l = append(l, seg(face[i-1], face[i]))
	}
	return append(l, seg(face[len(face)-1], face[0]))
}

func wantCheck(n int, f [][]int) api.Errno {
	if n < 0 || n > 1<<20 {
		return api.ErrArg
	}
	for _, face := range f {
		for i, p := range face {
			if p < 0 || p >= n || slices.Contains(face[:i], p) {
				return api.ErrArg
			}
		}
		if len(face) < 3 {
			return api.ErrArg
		}
	}
	for i, face := range f {
		for _, s := range edges(face) {
			for _, other := range f[:i] {
				if leads(other, s.A, s.B) {
					return api.ErrTwice
				}
			}
		}
	}
	return api.OK
}

func refusedAll(f [][]int) bool {
	return wantCheck(1<<20, f) != api.OK
}

func wantLeft(f [][]int, a, b int) int {
	if refusedAll(f) {
		return -1
	}
	return slices.IndexFunc(f, func(face []int) bool { return leads(face, a, b) })
}

// used has all points that occur, rising.
func used(f [][]int) []int {
	l := slices.Concat(f...)
	slices.Sort(l)
	return slices.Compact(l)
}

func wantEdges(f [][]int) []api.Seg {
	if refusedAll(f) {
		return nil
	}
	var l []api.Seg
	points := used(f)
	for i, a := range points {
		for _, b := range points[i+1:] {
			if slices.ContainsFunc(f, func(face []int) bool { return leads(face, a, b) || leads(face, b, a) }) {
				l = append(l, seg(a, b))
			}
		}
	}
	return l
}

// wantRims goes from each point that is not less than another one of its loop.
func wantRims(n int, f [][]int) ([][]int, api.Errno) {
	if e := wantCheck(n, f); e != api.OK {
		return nil, e
	}
	var rims []api.Seg
	for _, face := range f {
		for _, s := range edges(face) {
			if wantLeft(f, s.B, s.A) < 0 {
				rims = append(rims, s)
			}
		}
	}
	for i, s := range rims {
		for _, other := range rims[:i] {
			if other.A == s.A {
				return nil, api.ErrRing
			}
		}
	}
	var loops [][]int
	for _, first := range used(f) {
		ring := []int{}
		for p := first; ; {
			i := slices.IndexFunc(rims, func(s api.Seg) bool { return s.A == p })
			if i < 0 {
				break
			}
			ring = append(ring, p)
			if p = rims[i].B; p <= first {
				break
			}
		}
		if len(ring) > 0 && leads(append(ring, first), ring[len(ring)-1], first) && slices.Contains(rims, seg(ring[len(ring)-1], first)) {
			loops = append(loops, ring)
		}
	}
	return loops, api.OK
}

// wantParts gives each face its own number, and each two faces with a common edge the lesser of theirs, until nothing changes.
func wantParts(f [][]int) []int {
	if refusedAll(f) {
		return nil
	}
	l := rising(0, len(f))
	for changed := true; changed; {
		changed = false
		for i, face := range f {
			for k, other := range f {
				common := slices.ContainsFunc(edges(face), func(s api.Seg) bool { return leads(other, s.B, s.A) })
				if common && l[i] != l[k] {
					l[i], l[k] = min(l[i], l[k]), min(l[i], l[k])
					changed = true
				}
			}
		}
	}
	names := slices.Clone(l)
	slices.Sort(names)
	names = slices.Compact(names)
	for i := range l {
		l[i] = slices.Index(names, l[i])
	}
	return l
}

// check holds all calls against what the chapter says.
func check(t *testing.T, n int, f [][]int) {
	t.Helper()
	kept := copied(f)
	checkRims(t, n, f)
	checkEdges(t, f)
	if got, want := faces.Parts(f), wantParts(f); !slices.Equal(got, want) {
		t.Fatalf("Parts(%v) = %v, want %v", f, got, want)
	}
	if !same(f, kept) {
		t.Fatalf("%v was changed to %v", kept, f)
	}
}

// checkRims holds Check and Rims against what the chapter says.
func checkRims(t *testing.T, n int, f [][]int) {
	t.Helper()
	if got, want := faces.Check(n, f), wantCheck(n, f); got != want {
		t.Fatalf("Check(%d, %v) = %d, want %d", n, f, got, want)
	}
	got, e := faces.Rims(n, f)
	if want, wantE := wantRims(n, f); !same(got, want) || e != wantE {
		t.Fatalf("Rims(%d, %v) = %v, %d, want %v, %d", n, f, got, e, want, wantE)
	}
}

// checkEdges holds Edges, Count and Left, for all points and some that are none, against what the chapter says.
func checkEdges(t *testing.T, f [][]int) {
	t.Helper()
	want := wantEdges(f)
	if got := faces.Edges(f); !slices.Equal(got, want) {
		t.Fatalf("Edges(%v) = %v, want %v", f, got, want)
	}
	points, count := used(f), []int{0, 0, 0}
	if !refusedAll(f) {
		count = []int{len(points), len(want), len(f)}
	}
	if v, k, n := faces.Count(f); !slices.Equal([]int{v, k, n}, count) {
		t.Fatalf("Count(%v) = %d %d %d, want %v", f, v, k, n, count)
	}
	points = append(points, -1, 77)
	for _, a := range points[max(0, len(points)-8):] {
		for _, b := range points[:min(8, len(points))] {
			if got, want := faces.Left(f, a, b), wantLeft(f, a, b); got != want {
				t.Fatalf("Left(%v, %d, %d) = %d, want %d", f, a, b, got, want)
			}
			if got, want := faces.Left(f, b, a), wantLeft(f, b, a); got != want {
				t.Fatalf("Left(%v, %d, %d) = %d, want %d", f, b, a, got, want)
			}
		}
	}
}

// checkAll wants exactly these answers.
func checkAll(t *testing.T, f [][]int, edges []api.Seg, rims [][]int, e api.Errno, parts []int, count [3]int) {
	t.Helper()
	check(t, api.MaxBytes, f)
	if got := faces.Edges(f); !slices.Equal(got, edges) {
		t.Errorf("Edges(%v) = %v, want %v", f, got, edges)
	}
	if got, gotE := faces.Rims(api.MaxBytes, f); !same(got, rims) || gotE != e {
		t.Errorf("Rims(%v) = %v, %d, want %v, %d", f, got, gotE, rims, e)
	}
	if got := faces.Parts(f); !slices.Equal(got, parts) {
		t.Errorf("Parts(%v) = %v, want %v", f, got, parts)
	}
	if v, k, n := faces.Count(f); [3]int{v, k, n} != count {
		t.Errorf("Count(%v) = %d %d %d, want %v", f, v, k, n, count)
	}
}

func TestExamples(t *testing.T) {
	f := list([]int{0, 1, 2}, []int{0, 2, 3})
	checkAll(t, f, segs(0, 1, 0, 2, 0, 3, 1, 2, 2, 3), list([]int{0, 1, 2, 3}), api.OK, []int{0, 0}, [3]int{4, 5, 2})
	if a, b := faces.Left(f, 0, 2), faces.Left(f, 2, 0); a != 1 || b != 0 {
		t.Error("Left", a, b)
	}
	// Of README.md.
	if e := faces.Check(4, f); e != api.OK {
		t.Error(e)
	}
	if i := faces.Left(f, 1, 0); i != -1 {
		t.Error(i)
	}
	if e := faces.Check(3, f); e != api.ErrArg {
		t.Error(e)
	}
}

func TestFaces(t *testing.T) {
	for _, x := range []struct {
		f     [][]int
		edges []api.Seg
		rims  [][]int
		e     api.Errno
		parts []int
		count [3]int
	}{
		{nil, nil, nil, api.OK, nil, [3]int{0, 0, 0}},
		// One face, begun by any of its points: the rim is begun by its smallest point, in the direction of the face.
		{list([]int{0, 1, 2}), segs(0, 1, 0, 2, 1, 2), list([]int{0, 1, 2}), api.OK, []int{0}, [3]int{3, 3, 1}},
		{list([]int{2, 1, 0}), segs(0, 1, 0, 2, 1, 2), list([]int{0, 2, 1}), api.OK, []int{0}, [3]int{3, 3, 1}},
		{list([]int{9, 4, 7, 5}), segs(4, 7, 4, 9, 5, 7, 5, 9), list([]int{4, 7, 5, 9}), api.OK, []int{0}, [3]int{4, 4, 1}},
		// Two faces without anything in common; the loops by their first points, the parts by their first faces.
		{list([]int{3, 4, 5}, []int{1, 2, 0}), segs(0, 1, 0, 2, 1, 2, 3, 4, 3, 5, 4, 5), list([]int{0, 1, 2}, []int{3, 4, 5}), api.OK, []int{0, 1}, [3]int{6, 6, 2}},
		{list([]int{0, 9, 5}, []int{4, 6, 2}), segs(0, 5, 0, 9, 2, 4, 2, 6, 4, 6, 5, 9), list([]int{0, 9, 5}, []int{2, 4, 6}), api.OK, []int{0, 1}, [3]int{6, 6, 2}},
		// Two at one point: two rim edges begin there, and the faces are not connected.
		{list([]int{0, 1, 2}, []int{0, 3, 4}), segs(0, 1, 0, 2, 0, 3, 0, 4, 1, 2, 3, 4), nil, api.ErrRing, []int{0, 1}, [3]int{5, 6, 2}},
		{list([]int{0, 1, 9}, []int{4, 9, 3}), segs(0, 1, 0, 9, 1, 9, 3, 4, 3, 9, 4, 9), nil, api.ErrRing, []int{0, 1}, [3]int{5, 6, 2}},
		// The same points, both ways round: no edge is a rim.
		{list([]int{0, 1, 2}, []int{2, 1, 0}), segs(0, 1, 0, 2, 1, 2), nil, api.OK, []int{0, 0}, [3]int{3, 3, 2}},
		// Two edges in common.
		{list([]int{0, 1, 2, 3}, []int{2, 1, 0, 4}), segs(0, 1, 0, 3, 0, 4, 1, 2, 2, 3, 2, 4), list([]int{0, 4, 2, 3}), api.OK, []int{0, 0}, [3]int{5, 6, 2}},
		// A tetrahedron: no rims.
		{list([]int{0, 1, 2}, []int{0, 3, 1}, []int{1, 3, 2}, []int{2, 3, 0}), segs(0, 1, 0, 2, 0, 3, 1, 2, 1, 3, 2, 3), nil, api.OK, []int{0, 0, 0, 0}, [3]int{4, 6, 4}},
		// A frame of four around a hole, whose rim goes the other way round.
		{list([]int{0, 1, 5, 4}, []int{1, 2, 6, 5}, []int{2, 3, 7, 6}, []int{3, 0, 4, 7}), segs(0, 1, 0, 3, 0, 4, 1, 2, 1, 5, 2, 3, 2, 6, 3, 7, 4, 5, 4, 7, 5, 6, 6, 7), list([]int{0, 1, 2, 3}, []int{4, 7, 6, 5}), api.OK, []int{0, 0, 0, 0}, [3]int{8, 12, 4}},
		// Without one of its faces, it has one rim; without two that are not side by side, it is two parts.
		{list([]int{0, 1, 5, 4}, []int{1, 2, 6, 5}, []int{2, 3, 7, 6}), segs(0, 1, 0, 4, 1, 2, 1, 5, 2, 3, 2, 6, 3, 7, 4, 5, 5, 6, 6, 7), list([]int{0, 1, 2, 3, 7, 6, 5, 4}), api.OK, []int{0, 0, 0}, [3]int{8, 10, 3}},
		{list([]int{0, 1, 5, 4}, []int{2, 3, 7, 6}), segs(0, 1, 0, 4, 1, 5, 2, 3, 2, 6, 3, 7, 4, 5, 6, 7), list([]int{0, 1, 5, 4}, []int{2, 3, 7, 6}), api.OK, []int{0, 1}, [3]int{8, 8, 2}},
		// A fan around a point, which closes or does not.
		{list([]int{0, 1, 2}, []int{0, 2, 3}, []int{0, 3, 1}), segs(0, 1, 0, 2, 0, 3, 1, 2, 1, 3, 2, 3), list([]int{1, 2, 3}), api.OK, []int{0, 0, 0}, [3]int{4, 6, 3}},
		{list([]int{9, 1, 2}, []int{9, 2, 3}, []int{9, 3, 4}), segs(1, 2, 1, 9, 2, 3, 2, 9, 3, 4, 3, 9, 4, 9), list([]int{1, 2, 3, 4, 9}), api.OK, []int{0, 0, 0}, [3]int{5, 7, 3}},
		// A fourth face connects two parts only if it shares edges with both.
		{list([]int{0, 1, 2}, []int{7, 8, 9}, []int{3, 1, 0}, []int{9, 8, 6}), segs(0, 1, 0, 2, 0, 3, 1, 2, 1, 3, 6, 8, 6, 9, 7, 8, 7, 9, 8, 9), list([]int{0, 3, 1, 2}, []int{6, 9, 7, 8}), api.OK, []int{0, 1, 0, 1}, [3]int{8, 10, 4}},
		{list([]int{0, 1, 2}, []int{7, 8, 9}, []int{1, 0, 7, 9}), segs(0, 1, 0, 2, 0, 7, 1, 2, 1, 9, 7, 8, 7, 9, 8, 9), list([]int{0, 7, 8, 9, 1, 2}), api.OK, []int{0, 0, 0}, [3]int{6, 8, 3}},
		{list([]int{0, 1, 2}, []int{7, 8, 9}, []int{1, 0, 7, 5}), segs(0, 1, 0, 2, 0, 7, 1, 2, 1, 5, 5, 7, 7, 8, 7, 9, 8, 9), nil, api.ErrRing, []int{0, 1, 0}, [3]int{7, 9, 3}},
		// A Möbius strip can't be gone round everywhere in one direction, but its last face has a twisted edge of its own.
		{list([]int{0, 1, 3, 2}, []int{2, 3, 5, 4}, []int{4, 5, 1, 6}), segs(0, 1, 0, 2, 1, 3, 1, 5, 1, 6, 2, 3, 2, 4, 3, 5, 4, 5, 4, 6), nil, api.ErrRing, []int{0, 0, 0}, [3]int{7, 10, 3}},
	} {
		checkAll(t, x.f, x.edges, x.rims, x.e, x.parts, x.count)
	}
}

func TestLeft(t *testing.T) {
	f := list([]int{7, 0, 4}, []int{4, 0, 9, 3})
	for _, x := range []struct{ a, b, i int }{
		{7, 0, 0}, {0, 4, 0}, {4, 7, 0}, {4, 0, 1}, {0, 9, 1}, {9, 3, 1}, {3, 4, 1},
		// The reverse of a rim edge, no edge, a point to itself, points of none.
		{0, 7, -1}, {7, 4, -1}, {9, 0, -1}, {3, 9, -1}, {4, 3, -1}, {4, 9, -1}, {9, 4, -1}, {0, 3, -1}, {3, 0, -1}, {7, 9, -1}, {0, 0, -1}, {4, 4, -1}, {1, 2, -1}, {0, 1, -1}, {1, 0, -1},
		{-1, 0, -1}, {0, -1, -1}, {-1, -1, -1}, {math.MinInt, math.MaxInt, -1}, {math.MaxInt, math.MaxInt, -1}, {7 + 1<<32, 0, -1}, {7, 1 << 32, -1}, {0, 4 + 1<<32, -1},
	} {
		if i := faces.Left(f, x.a, x.b); i != x.i {
			t.Errorf("Left(%v, %d, %d) = %d, want %d", f, x.a, x.b, i, x.i)
		}
	}
	for _, f := range [][][]int{nil, {}, {{0, 1}}, {{0, 1, 2}, nil}, {{0, 1, 2}, {0, 1, 3}}} {
		if i := faces.Left(f, 0, 1); i != -1 {
			t.Errorf("Left(%v, 0, 1) = %d", f, i)
		}
	}
}

// checkRefused wants Check and Rims to return this error, whatever the other calls return.
func checkRefused(t *testing.T, n int, f [][]int, want api.Errno) {
	t.Helper()
	kept := copied(f)
	if e := faces.Check(n, f); e != want {
		t.Errorf("Check(%d, %v) = %d, want %d", n, f, e, want)
	}
	if l, e := faces.Rims(n, f); len(l) != 0 || e != want {
		t.Errorf("Rims(%d, %v) = %v, %d, want %d", n, f, l, e, want)
	}
	if !same(f, kept) {
		t.Errorf("%v was changed to %v", kept, f)
	}
}

// checkNothing wants the other calls to return nothing.
func checkNothing(t *testing.T, f [][]int) {
	t.Helper()
	if l := faces.Edges(f); len(l) != 0 {
		t.Errorf("Edges(%v) = %v", f, l)
	}
	if l := faces.Parts(f); len(l) != 0 {
		t.Errorf("Parts(%v) = %v", f, l)
	}
	if a, b, c := faces.Count(f); a != 0 || b != 0 || c != 0 {
		t.Errorf("Count(%v) = %d %d %d", f, a, b, c)
	}
	for _, face := range f {
		for i, p := range face {
			for _, q := range face[i:] {
				if a, b := faces.Left(f, p, q), faces.Left(f, q, p); a != -1 || b != -1 {
					t.Errorf("Left(%v, %d, %d) = %d, %d back", f, p, q, a, b)
				}
			}
		}
	}
}

// wrong are faces that may not be, whatever n is.
func wrong() [][][]int {
	return [][][]int{
		// Fewer than three points.
		{nil}, {{}}, {{0}}, {{0, 1}}, {{1, 0}}, {{0, 1, 2}, {}}, {{}, {0, 1, 2}}, {{0, 1, 2}, {3, 4}}, {{0, 1, 2}, {2, 1}, {0, 2, 3}}, {{0, 0}}, {{7}, {0, 1, 2}},
		// A number below 0 or beyond any.
		{{-1, 0, 1}}, {{0, -1, 1}}, {{0, 1, -1}}, {{math.MinInt, 0, 1}}, {{0, 1, math.MaxInt}}, {{0, api.MaxBytes, 1}}, {{0, 1, 2}, {0, 2, api.MaxBytes}}, {{0, 1, 2}, {-3, 2, 0}}, {{0, 1 << 32, 1}}, {{0, 1, 2 + 1<<32}}, {{1, 2, math.MinInt, math.MaxInt}},
		// A point twice: side by side, apart, first and last; in any of the faces.
		{{0, 0, 1}}, {{0, 1, 1}}, {{0, 1, 0}}, {{1, 1, 1}}, {{0, 1, 0, 2}}, {{0, 1, 2, 1}}, {{0, 1, 2, 0}}, {{0, 1, 2, 3, 4, 2}}, {{3, 2, 1, 0, 3}}, {{0, 1, 2}, {0, 2, 0}}, {{0, 1, 2}, {0, 2, 3, 2}}, {{4, 5, 4}, {0, 1, 2}}, {{0, 1, 2, 0, 1, 2}},
		// R1: all of that ahead of an edge that is there twice.
		{{0, 1, 2}, {0, 1, 3}, {0, 1}}, {{0, 1, 2}, {0, 1, 2}, {}}, {{0, 1, 2}, {0, 1, -1}}, {{0, 1, 2}, {0, 1, 2, 0}}, {{0, 1, 2}, {0, 1, 2}, {5, 6, -1}}, {{0, 1, 2}, {0, 1, 2}, {5, 6, 5}}, {{0, 1, 2}, {0, 1, 0}}, {{0, 1, 2}, {0, 1, api.MaxBytes}},
	}
}

func TestWrongFaces(t *testing.T) {
	for _, f := range wrong() {
		for _, n := range []int{0, 1, 3, 10, api.MaxBytes, -1, api.MaxBytes + 1} {
			checkRefused(t, n, f, api.ErrArg)
		}
		checkNothing(t, f)
		check(t, 10, f)
	}
}

func TestWrongNumbers(t *testing.T) {
	f := list([]int{0, 1, 2}, []int{0, 2, 3})
	twice := list([]int{0, 1, 2}, []int{0, 1, 3})
	for _, n := range []int{-1, -4, api.MaxBytes + 1, 1 << 32, math.MinInt, math.MaxInt, -api.MaxBytes} {
		checkRefused(t, n, nil, api.ErrArg)
		checkRefused(t, n, [][]int{}, api.ErrArg)
		checkRefused(t, n, f, api.ErrArg)
		checkRefused(t, n, twice, api.ErrArg)
	}
	// Points from n on.
	for n := range 4 {
		checkRefused(t, n, f, api.ErrArg)
		checkRefused(t, n, twice, api.ErrArg)
	}
	checkRefused(t, 4, twice, api.ErrTwice)
	for _, n := range []int{4, 5, 1000, api.MaxBytes} {
		check(t, n, f)
		check(t, n, nil)
		if e := faces.Check(n, f); e != api.OK {
			t.Errorf("Check(%d) = %d", n, e)
		}
	}
	check(t, 0, nil)
	// What n is does not matter to the calls without it.
	far := list([]int{1048575, 0, 1048574})
	checkRefused(t, api.MaxBytes-1, far, api.ErrArg)
	checkAll(t, far, segs(0, 1048574, 0, 1048575, 1048574, 1048575), list([]int{0, 1048574, 1048575}), api.OK, []int{0}, [3]int{3, 3, 1})
}

func TestTwice(t *testing.T) {
	for _, f := range [][][]int{
		{{0, 1, 2}, {0, 1, 2}}, {{0, 1, 2}, {1, 2, 0}}, {{0, 1, 2}, {2, 0, 1}}, {{0, 1, 2}, {0, 1, 3}}, {{0, 1, 2}, {3, 0, 1}}, {{0, 1, 2}, {1, 3, 0}}, {{0, 1, 2}, {3, 1, 2}}, {{0, 1, 2}, {0, 3, 2}},
		{{1, 2, 0}, {0, 1, 4, 3}}, {{0, 1, 2}, {5, 6, 7}, {2, 0, 8}}, {{5, 6, 7}, {0, 1, 2, 3}, {9, 8, 3, 0}}, {{0, 1, 2}, {2, 1, 0}, {0, 1, 3}}, {{0, 1, 2}, {2, 1, 0}, {1, 0, 3}}, {{0, 1, 2}, {2, 1, 0}, {0, 1, 2}},
		// The last face of a Möbius strip.
		{{0, 1, 3, 2}, {2, 3, 5, 4}, {4, 5, 0, 1}},
	} {
		checkRefused(t, 10, f, api.ErrTwice)
		checkNothing(t, f)
		check(t, 10, f)
	}
	// The same points in another order, and sums, products and digits of ends, are no same edges.
	for _, f := range [][][]int{{{0, 1, 2, 3}, {2, 1, 0, 4}}, {{0, 4, 5}, {1, 3, 7}, {2, 6, 8}}, {{1, 12, 40}, {2, 6, 50}, {3, 4, 60}}, {{1, 23, 40}, {12, 3, 50}}, {{0, 1, 2}, {0, 3, 1}}} {
		if e := faces.Check(100, f); e != api.OK {
			t.Errorf("Check(%v) = %d", f, e)
		}
		check(t, 100, f)
	}
}

// ErrRing is told only of faces that Check takes.
func TestNoRing(t *testing.T) {
	for _, f := range [][][]int{
		{{0, 1, 2}, {0, 3, 4}}, {{1, 2, 0}, {3, 4, 0}}, {{0, 1, 2, 3}, {2, 4, 5, 6}}, {{0, 1, 2}, {3, 4, 5}, {6, 7, 5}}, {{0, 1, 2}, {1, 3, 4}, {2, 5, 0, 6}}, {{0, 2, 1}, {2, 0, 3}, {9, 3, 8}},
		// Two cells of a board, corner to corner; four sheets at one point.
		{{0, 1, 4, 3}, {4, 5, 8, 7}}, {{0, 1, 9}, {0, 9, 2}, {0, 3, 4}, {0, 5, 6}},
	} {
		if e := faces.Check(20, f); e != api.OK {
			t.Errorf("Check(%v) = %d", f, e)
		}
		if l, e := faces.Rims(20, f); len(l) != 0 || e != api.ErrRing {
			t.Errorf("Rims(%v) = %v, %d", f, l, e)
		}
		checkRefused(t, 3, f, api.ErrArg)
		check(t, 20, f)
		checkRefused(t, 20, append(copied(f), f[0]), api.ErrTwice)
	}
	// A face between the two cells closes one side of the corner.
	checkAll(t, list([]int{0, 1, 4, 3}, []int{4, 5, 8, 7}, []int{1, 2, 5, 4}), segs(0, 1, 0, 3, 1, 2, 1, 4, 2, 5, 3, 4, 4, 5, 4, 7, 5, 8, 7, 8), list([]int{0, 1, 2, 5, 8, 7, 4, 3}), api.OK, []int{0, 0, 0}, [3]int{8, 10, 3})
}

// shown has all lists of up to most of these faces.
func shown(from [][]int, most int, each func(f [][]int)) {
	var grow func(f [][]int)
	grow = func(f [][]int) {
		each(f)
		if len(f) < most {
			for _, face := range from {
				grow(append(slices.Clone(f), face))
			}
		}
	}
	grow(nil)
}

// rows has all rows of this length over the points 0 to n - 1.
func rows(n int, length int) [][]int {
	all := [][]int{{}}
	for range length {
		var longer [][]int
		for _, row := range all {
			for p := range n {
				longer = append(longer, append(slices.Clone(row), p))
			}
		}
		all = longer
	}
	return all
}

// rounds has all faces of this length over the points 0 to n - 1, each begun by its smallest point.
func rounds(n int, length int) [][]int {
	return slices.DeleteFunc(rows(n, length), func(face []int) bool {
		return wantCheck(n, list(face)) != api.OK || face[0] != slices.Min(face)
	})
}

func TestAllShortLists(t *testing.T) {
	// All rows of up to four of three points, of which most are no faces; two of those.
	var some [][]int
	for length := range 5 {
		some = append(some, rows(3, length)...)
	}
	shown(some, 2, func(f [][]int) { check(t, 3, f) })
	errors := map[api.Errno]int{}
	count := func(f [][]int) {
		check(t, 4, f)
		_, e := faces.Rims(4, f)
		errors[e]++
	}
	// All of up to four triangles, in any order; of up to three faces of four points.
	shown(rounds(4, 3), 4, count)
	shown(slices.Concat(rounds(4, 3), rounds(4, 4)), 3, count)
	if errors[api.OK] < 100 || errors[api.ErrTwice] < 1000 {
		t.Error(errors)
	}
}

// All choices of up to four triangles between five points: some leave a point at which two rims begin.
func TestAllChoices(t *testing.T) {
	all, errors := rounds(5, 3), map[api.Errno]int{}
	var choose func(f [][]int, from int)
	choose = func(f [][]int, from int) {
		check(t, 5, f)
		_, e := faces.Rims(5, f)
		errors[e]++
		for i := from; i < len(all) && len(f) < 4; i++ {
			choose(append(slices.Clone(f), all[i]), i+1)
		}
	}
	choose(nil, 0)
	if len(all) != 20 || errors[api.OK] < 300 || errors[api.ErrTwice] < 1000 || errors[api.ErrRing] < 50 {
		t.Error(len(all), errors)
	}
}

// board has the cells of a board of w by h, some of them missing, some cut in two; its points are numbered by names.
func board(r *rand.Rand, w, h int, names []int, missing int) [][]int {
	var f [][]int
	name := func(x, y int) int { return names[y*(w+1)+x] }
	for x := range w {
		for y := range h {
			cell := []int{name(x, y), name(x+1, y), name(x+1, y+1), name(x, y+1)}
			cell = begun(cell, r.IntN(4))
			switch {
			case r.IntN(100) < missing:
			case r.IntN(2) == 0:
				f = append(f, cell)
			default:
				f = append(f, begun(cell[:3], r.IntN(3)), begun([]int{cell[0], cell[2], cell[3]}, r.IntN(3)))
			}
		}
	}
	r.Shuffle(len(f), func(i, k int) { f[i], f[k] = f[k], f[i] })
	return f
}

// drawn has a board with names from 0 to n - 1, and n.
func drawn(r *rand.Rand) ([][]int, int) {
	w, h := 1+r.IntN(4), 1+r.IntN(4)
	n := (w+1)*(h+1) + r.IntN(20)
	return board(r, w, h, r.Perm(n), r.IntN(3)*20), n
}

// checkProperties wants each edge to have one face or two, the loops to have just those with one, in their direction, once; and the numbers of Euler's formula where it holds.
func checkProperties(t *testing.T, n int, f [][]int) {
	t.Helper()
	around := map[api.Seg]int{}
	l, e := faces.Rims(n, f)
	last := -1
	for _, ring := range l {
		if len(ring) < 3 || ring[0] != slices.Min(ring) || ring[0] <= last {
			t.Fatalf("%v is not a loop as it should be, or not at its place in %v", ring, l)
		}
		last = ring[0]
		for _, s := range edges(ring) {
			around[s]++
		}
	}
	single := 0
	for _, s := range faces.Edges(f) {
		a, b := faces.Left(f, s.A, s.B), faces.Left(f, s.B, s.A)
		if s.A >= s.B || a < 0 && b < 0 || a == b {
			t.Fatalf("%v has the faces %d and %d of %v", s, a, b, f)
		}
		if a < 0 || b < 0 {
			single++
		}
		want := 0
		if e == api.OK && b < 0 {
			want = 1
		}
		if around[s] != want || e == api.OK && around[seg(s.B, s.A)] != btoi(a < 0) {
			t.Fatalf("%v with the faces %d and %d is in the loops %v", s, a, b, l)
		}
	}
	if e == api.OK && single != len(around) {
		t.Fatalf("%d edges with one face, but %d in the loops %v", single, len(around), l)
	}
	checkEuler(t, f, l, e)
}

func btoi(b bool) int {
	if b {
		return 1
	}
	return 0
}

// checkEuler wants points + faces + loops - edges to be twice the number of parts, for faces in the plane whose rims are loops.
func checkEuler(t *testing.T, f [][]int, l [][]int, e api.Errno) {
	t.Helper()
	if e != api.OK {
		return
	}
	parts := 0
	for _, part := range faces.Parts(f) {
		parts = max(parts, part+1)
	}
	v, k, n := faces.Count(f)
	if v-k+n+len(l) != 2*parts {
		t.Fatalf("%v has %d points, %d edges, %d faces, %d loops and %d parts", f, v, k, n, len(l), parts)
	}
}

func TestDrawnBoards(t *testing.T) {
	r := rand.New(rand.NewPCG(111, 1))
	kinds := map[string]int{}
	for range 1000 {
		f, n := drawn(r)
		check(t, n, f)
		checkProperties(t, n, f)
		l, e := faces.Rims(n, f)
		switch {
		case e == api.ErrRing:
			kinds["corner"]++
		case e == api.OK && len(l) > 1:
			kinds["several"]++
		case e == api.OK:
			kinds["single"]++
		}
	}
	if kinds["corner"] < 70 || kinds["several"] < 50 || kinds["single"] < 500 {
		t.Error(kinds)
	}
}

// spoil puts one fault into the faces.
func spoil(r *rand.Rand, f [][]int, n int) [][]int {
	f = copied(f)
	i := r.IntN(len(f))
	k := r.IntN(len(f[i]))
	switch r.IntN(6) {
	case 0:
		f[i][k] = []int{-1, n, n - 1, math.MinInt, math.MaxInt, r.IntN(n)}[r.IntN(6)]
	case 1:
		f[i] = f[i][:k]
	case 2:
		slices.Reverse(f[i])
	case 3:
		f = slices.Insert(f, r.IntN(len(f)), begun(f[i], k))
	case 4:
		f[i] = append(f[i], f[i][k])
	case 5:
		f[i][k], f[i][0] = f[i][0], f[i][k]
	}
	return f
}

func TestDrawnFaults(t *testing.T) {
	r := rand.New(rand.NewPCG(111, 2))
	errors := map[api.Errno]int{}
	for range 3000 {
		f, n := drawn(r)
		if len(f) == 0 {
			continue
		}
		f = spoil(r, f, n)
		check(t, n, f)
		_, e := faces.Rims(n, f)
		errors[e]++
	}
	if errors[api.OK] < 200 || errors[api.ErrArg] < 400 || errors[api.ErrTwice] < 400 || errors[api.ErrRing] < 100 {
		t.Error(errors)
	}
}

// The order of the faces, and by which point each one is begun, does not change how they are connected.
func TestOtherOrder(t *testing.T) {
	r := rand.New(rand.NewPCG(111, 3))
	for range 2000 {
		f, n := drawn(r)
		order := r.Perm(len(f))
		other := make([][]int, len(f))
		for i, k := range order {
			other[k] = begun(f[i], r.IntN(len(f[i])))
		}
		if !slices.Equal(faces.Edges(f), faces.Edges(other)) {
			t.Fatalf("%v and %v have different edges", f, other)
		}
		a, e := faces.Rims(n, f)
		b, otherE := faces.Rims(n, other)
		if !same(a, b) || e != otherE {
			t.Fatalf("%v and %v have different rims", f, other)
		}
		parts, otherParts := faces.Parts(f), faces.Parts(other)
		for i, k := range order {
			for j, l := range order {
				if (parts[i] == parts[j]) != (otherParts[k] == otherParts[l]) {
					t.Fatalf("%v and %v have different parts", f, other)
				}
			}
			for _, s := range edges(f[i]) {
				if faces.Left(f, s.A, s.B) != i || faces.Left(other, s.A, s.B) != k {
					t.Fatalf("%v is not at %d and %d of %v and %v", s, i, k, f, other)
				}
			}
		}
	}
}

// Other names for the points change the names in all answers, and nothing else.
func TestOtherNames(t *testing.T) {
	r := rand.New(rand.NewPCG(111, 4))
	for range 1000 {
		f, n := drawn(r)
		names := r.Perm(n)
		other := copied(f)
		for _, face := range other {
			for k, p := range face {
				face[k] = names[p]
			}
		}
		if !slices.Equal(faces.Parts(f), faces.Parts(other)) {
			t.Fatalf("%v and %v have different parts", f, other)
		}
		l, e := faces.Rims(n, f)
		otherL, otherE := faces.Rims(n, other)
		if e != otherE || len(l) != len(otherL) {
			t.Fatalf("%v and %v have different rims", f, other)
		}
		var a, b []api.Seg
		for i := range l {
			for _, s := range edges(l[i]) {
				a = append(a, seg(names[s.A], names[s.B]))
			}
			b = append(b, edges(otherL[i])...)
		}
		for _, s := range a {
			if len(a) != len(b) || !slices.Contains(b, s) {
				t.Fatalf("%v and %v have different rims", f, other)
			}
		}
	}
}

// The other way round, the rims are the same loops, the other way round; what is on the left of an edge was on the left of its reverse.
func TestReversed(t *testing.T) {
	r := rand.New(rand.NewPCG(111, 5))
	for range 1000 {
		f, n := drawn(r)
		back := copied(f)
		for _, face := range back {
			slices.Reverse(face)
		}
		l, e := faces.Rims(n, f)
		for i, ring := range l {
			l[i] = append(ring[:1:1], ring[1:]...)
			slices.Reverse(l[i][1:])
		}
		if got, gotE := faces.Rims(n, back); !same(got, l) || gotE != e {
			t.Fatalf("Rims(%v) = %v, %d, want %v, %d", back, got, gotE, l, e)
		}
		if !slices.Equal(faces.Parts(f), faces.Parts(back)) || !slices.Equal(faces.Edges(f), faces.Edges(back)) {
			t.Fatalf("%v and %v are connected in different ways", f, back)
		}
		for _, s := range faces.Edges(f) {
			if faces.Left(f, s.A, s.B) != faces.Left(back, s.B, s.A) || faces.Left(f, s.B, s.A) != faces.Left(back, s.A, s.B) {
				t.Fatalf("%v has other faces in %v than in %v", s, f, back)
			}
		}
	}
}

// A ring of quadrilaterals all around, once as a band with two rims, once closed to a torus, without any.
func TestClosedFaces(t *testing.T) {
	const w, h = 5, 4
	var band, torus [][]int
	for x := range w {
		for y := range h {
			cell := func(tall int) []int {
				right, up := (x+1)%w, (y+1)%tall
				return []int{y*w + x, y*w + right, up*w + right, up*w + x}
			}
			band = append(band, cell(h+1))
			torus = append(torus, cell(h))
		}
	}
	check(t, w*(h+1), band)
	check(t, w*h, torus)
	l, e := faces.Rims(w*(h+1), band)
	if !same(l, list(rising(0, w), []int{w * h, w*h + 4, w*h + 3, w*h + 2, w*h + 1})) || e != api.OK {
		t.Error("band", l, e)
	}
	if l, e := faces.Rims(w*h, torus); len(l) != 0 || e != api.OK {
		t.Error("torus", l, e)
	}
	if a, b, c := faces.Count(torus); a != 20 || b != 40 || c != 20 {
		t.Error(a, b, c)
	}
}

// One face of all points that there may be; a fan of many triangles, all in one part; and as many apart.
func TestLimits(t *testing.T) {
	const most = api.MaxBytes
	all := rising(0, most)
	whole := list(all)
	if l, e := faces.Rims(most, whole); e != api.OK || !same(l, whole) {
		t.Error("Rims of one face", len(l), e)
	}
	if l := faces.Edges(whole); len(l) != most || l[0] != seg(0, 1) || l[1] != seg(0, most-1) || l[most-1] != seg(most-2, most-1) {
		t.Error("Edges of one face", len(l))
	}
	if e := faces.Check(most, list(append(all, most/2))); e != api.ErrArg {
		t.Error("a point twice, far apart", e)
	}
	if e := faces.Check(most, list(append(all, most))); e != api.ErrArg {
		t.Error("too many", e)
	}
	var fan, apart [][]int
	for p := 1; p+1 < most/16; p++ {
		fan = append(fan, []int{p + 1, 0, p})
		apart = append(apart, []int{3*p + 2, 3 * p, 3*p + 1})
	}
	if parts := faces.Parts(fan); len(parts) != len(fan) || slices.Max(parts) != 0 || slices.Min(parts) != 0 {
		t.Error("a fan has several parts")
	}
	if l, e := faces.Rims(most, fan); e != api.OK || !same(l, list(rising(0, most/16))) {
		t.Error("Rims of a fan", len(l), e)
	}
	if parts := faces.Parts(apart); !slices.Equal(parts, rising(0, len(apart))) {
		t.Error("faces apart have other parts")
	}
	if e := faces.Check(most, append(apart, []int{7, 5, 9}, []int{3, 4, 0})); e != api.ErrTwice {
		t.Error("an edge twice, far apart", e)
	}
}

// fill makes all elements x, the ones behind the end too.
func fill[T any](l []T, x T) {
	l = l[:cap(l)]
	for i := range l {
		l[i] = x
	}
}

// checkApart wants all these slices to share no memory, up to their capacities: what is written to one of them, or behind its end, is not seen in another one.
func checkApart[T comparable](t *testing.T, name string, other T, l ...[]T) {
	t.Helper()
	var kept [][]T
	for _, x := range l {
		kept = append(kept, slices.Clone(x))
	}
	for i, x := range l {
		fill(x, other)
		for k, y := range l {
			if k > i && !slices.Equal(y, kept[k]) {
				t.Errorf("%s: %v became %v when another slice changed", name, kept[k], y)
			}
		}
	}
	for i := len(l) - 1; i >= 0; i-- {
		copy(l[i], kept[i])
		for k := i + 1; k < len(l); k++ {
			if !slices.Equal(l[k], kept[k]) {
				t.Errorf("%s: %v became %v when another slice changed back", name, kept[k], l[k])
			}
		}
	}
}

// R2: results are the caller's own, each slice of them; and what is behind the end of an argument, or of a face, is neither read nor written.
func TestResultsAreNewMemory(t *testing.T) {
	numbers := []int{0, 1, 2, 0, 2, 3, 7, 8, 9, 5, 0, 1, -1, -1}
	room := [][]int{numbers[0:3], numbers[3:6], numbers[6:10], {0, 1, 2}, {-1}}
	for _, length := range []int{0, 1, 2, 3} {
		kept, keptNumbers := copied(room), slices.Clone(numbers)
		f := room[:length]
		first, e := faces.Rims(10, f)
		second, _ := faces.Rims(10, f)
		if e != api.OK || len(first) != []int{0, 1, 1, 2}[length] || !same(first, second) {
			t.Fatal(first, second, e)
		}
		checkApart(t, "Rims", -7, append(slices.Concat(first, second), numbers)...)
		fill(first, []int{-7})
		if len(second) > 0 && slices.Equal(second[0], []int{-7}) {
			t.Error("two lists of loops share memory")
		}
		copy(numbers, keptNumbers)
		checkApart(t, "Edges", seg(-7, -7), faces.Edges(f), faces.Edges(f))
		checkApart(t, "Parts", -7, faces.Parts(f), faces.Parts(f), numbers)
		copy(numbers, keptNumbers)
		check(t, 10, f)
		if !same(room, kept) || !slices.Equal(numbers, keptNumbers) {
			t.Errorf("%v became %v", kept, room)
		}
	}
}

// R4: what was asked ahead changes no answer.
func TestSameAgain(t *testing.T) {
	asked := append(wrong(), nil, list([]int{0, 1, 2}), list([]int{0, 1, 2}, []int{0, 2, 3}), list([]int{0, 1, 2}, []int{0, 1, 3}), list([]int{0, 1, 2}, []int{0, 3, 4}), list([]int{3, 4, 5}, []int{1, 2, 0}, []int{7, 6, 8}))
	for _, f := range asked {
		for _, g := range asked {
			check(t, 10, f)
			check(t, 5, g)
			check(t, 10, f)
		}
	}
}

// R6: nil is as empty as others are.
func TestNilAndEmpty(t *testing.T) {
	for _, f := range [][][]int{nil, {}, list([]int{0, 1, 2})[:0], list([]int{0})[:0]} {
		for _, n := range []int{0, 1, 9, api.MaxBytes} {
			check(t, n, f)
			if l, e := faces.Rims(n, f); e != api.OK || len(l) != 0 {
				t.Error(l, e)
			}
		}
		checkRefused(t, -1, f, api.ErrArg)
		checkNothing(t, f)
	}
	for _, face := range [][]int{nil, {}, []int{0, 1, 2}[:0]} {
		checkRefused(t, 9, list(face), api.ErrArg)
		checkRefused(t, 9, list([]int{0, 1, 2}, face), api.ErrArg)
		checkNothing(t, list([]int{0, 1, 2}, face))
	}
}

// facesOf reads faces from bytes: a 0 ends one.
func facesOf(b []byte) [][]int {
	f := [][]int{nil}
	for _, x := range b[:min(len(b), 80)] {
		if x == 0 {
			f = append(f, nil)
		} else {
			f[len(f)-1] = append(f[len(f)-1], int(x)-2)
		}
	}
	return f
}

func FuzzFaces(f *testing.F) {
	f.Add(10, []byte{2, 3, 4, 0, 2, 4, 5, 0, 9, 10, 11, 7})
	f.Add(10, []byte{2, 3, 4, 0, 2, 5, 6})
	f.Add(10, []byte{2, 3, 4, 0, 2, 3, 5})
	f.Add(3, []byte{2, 3, 4, 5, 0, 4, 3, 2, 6})
	f.Add(-1, []byte{})
	f.Fuzz(func(t *testing.T, n int, b []byte) {
		check(t, n, facesOf(b))
	})
}
