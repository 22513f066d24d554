package sorts_test

import (
	"cmp"
	"math"
	"math/bits"
	"math/rand/v2"
	"slices"
	"testing"

	"parquet/api"
	"parquet/sorts"
)

// The calls that the chapter lists, with their exact signatures: a change of one does not compile.
var (
	_ func(api.Point, api.Point) bool                                                  = sorts.Less
	_ func([]tagged, []tagged, func(tagged, tagged) bool) []tagged                     = sorts.Merge[tagged]
	_ func([]tagged, func(tagged, tagged) bool) []tagged                               = sorts.Sort[tagged]
	_ func([]api.Point) []int                                                          = sorts.Order
	_ func([]api.Point) []int                                                          = sorts.Ranks
	_ func([]api.Point) (int, int, bool)                                               = sorts.Twice
	_ func([]api.Point) (api.Point, api.Point, bool)                                   = sorts.Box
	_ func([]func() any, []func() any, func(func() any, func() any) bool) []func() any = sorts.Merge[func() any]
	_ func([]map[int]int, func(map[int]int, map[int]int) bool) []map[int]int           = sorts.Sort[map[int]int]
)

// tagged is an element that others may be alike with for less, by its key, and that is told from these by its tag.
type tagged struct{ key, tag int }

type relation = func(a, b tagged) bool

func byKey(a, b tagged) bool { return a.key < b.key }

func always(a, b tagged) bool { return true }

func never(a, b tagged) bool { return false }

// row has an element for each key; their tags count on from the first one.
func row(first int, keys ...int) []tagged {
	var l []tagged
	for i, key := range keys {
		l = append(l, tagged{key, first + i})
	}
	return l
}

func tags(l []tagged) []int {
	var out []int
	for _, x := range l {
		out = append(out, x.tag)
	}
	return out
}

func at(x, y int) api.Point {
	return api.Point{X: x, Y: y}
}

func points(xy ...int) []api.Point {
	var p []api.Point
	for i := 0; i < len(xy); i += 2 {
		p = append(p, at(xy[i], xy[i+1]))
	}
	return p
}

func each(p []api.Point, f func(api.Point) api.Point) []api.Point {
	var out []api.Point
	for _, q := range p {
		out = append(out, f(q))
	}
	return out
}

// sequences calls f with all rows of at most that many of the numbers 0 to n - 1.
func sequences(n, most int, f func(l []int)) {
	var grow func(l []int)
	grow = func(l []int) {
		f(l)
		if len(l) < most {
			for i := range n {
				grow(append(slices.Clone(l), i))
			}
		}
	}
	grow(nil)
}

// What the chapter says, told another way: of rows by what is ahead and what is left; of points by counting those ahead of each, and by looking at each two of them.

func wantMerge(a, b []tagged, less relation) []tagged {
	switch {
	case len(a) == 0:
		return b
	case len(b) == 0:
		return a
	case less(b[0], a[0]):
		return slices.Concat(b[:1], wantMerge(a, b[1:], less))
	default:
		return slices.Concat(a[:1], wantMerge(a[1:], b, less))
	}
}

func wantSort(l []tagged, less relation) []tagged {
	if len(l) <= 1 {
		return l
	}
	n := (len(l) - len(l)%2) / 2
	return wantMerge(wantSort(l[:n], less), wantSort(l[n:], less), less)
}

func comparePoints(a, b api.Point) int {
	return cmp.Or(cmp.Compare(a.X, b.X), cmp.Compare(a.Y, b.Y))
}

func wantOrder(p []api.Point) []int {
	out := make([]int, len(p))
	for i, q := range p {
		ahead := 0
		for k, r := range p {
			if cmp.Or(comparePoints(r, q), cmp.Compare(k, i)) < 0 {
				ahead++
			}
		}
		out[ahead] = i
	}
	return out
}

func wantRanks(p []api.Point) []int {
	out := make([]int, len(p))
	for i, q := range p {
		different := map[api.Point]int{}
		for _, r := range p {
			if comparePoints(r, q) < 0 {
				different[r]++
			}
		}
		out[i] = len(different)
	}
	return out
}

func wantTwice(p []api.Point) (int, int, bool) {
	for i := range p {
		for k := i + 1; k < len(p); k++ {
			if comparePoints(p[i], p[k]) == 0 {
				return i, k, true
			}
		}
	}
	return 0, 0, false
}

func wantBox(p []api.Point) (api.Point, api.Point, bool) {
	if len(p) == 0 {
		return at(0, 0), at(0, 0), false
	}
	var xs, ys []int
	for _, q := range p {
		xs, ys = append(xs, q.X), append(ys, q.Y)
	}
	return at(slices.Min(xs), slices.Min(ys)), at(slices.Max(xs), slices.Max(ys)), true
}

// check holds all calls that take points against what the chapter says, and wants the points to stay as they are.
func check(t *testing.T, p []api.Point) {
	t.Helper()
	kept := slices.Clone(p)
	if got, want := sorts.Order(p), wantOrder(p); !slices.Equal(got, want) {
		t.Fatalf("Order(%v) = %v, want %v", p, got, want)
	}
	if got, want := sorts.Ranks(p), wantRanks(p); !slices.Equal(got, want) {
		t.Fatalf("Ranks(%v) = %v, want %v", p, got, want)
	}
	i, k, ok := sorts.Twice(p)
	if wantI, wantK, want := wantTwice(p); i != wantI || k != wantK || ok != want {
		t.Fatalf("Twice(%v) = %d, %d, %v, want %d, %d, %v", p, i, k, ok, wantI, wantK, want)
	}
	low, high, ok := sorts.Box(p)
	if wantLow, wantHigh, want := wantBox(p); low != wantLow || high != wantHigh || ok != want {
		t.Fatalf("Box(%v) = %v, %v, %v, want %v, %v, %v", p, low, high, ok, wantLow, wantHigh, want)
	}
	if !slices.Equal(p, kept) {
		t.Fatalf("%v was changed to %v", kept, p)
	}
}

// checkMerge wants exactly these elements, in that order, and the rows to stay as they are.
func checkMerge(t *testing.T, a, b []tagged, less relation, want []tagged) {
	t.Helper()
	keptA, keptB := slices.Clone(a), slices.Clone(b)
	if got := sorts.Merge(a, b, less); !slices.Equal(got, want) {
		t.Fatalf("Merge(%v, %v) = %v, want %v", a, b, got, want)
	}
	if !slices.Equal(a, keptA) || !slices.Equal(b, keptB) {
		t.Fatalf("%v and %v were changed to %v and %v", keptA, keptB, a, b)
	}
}

// checkSort wants exactly these elements, in that order, and the row to stay as it is.
func checkSort(t *testing.T, l []tagged, less relation, want []tagged) {
	t.Helper()
	kept := slices.Clone(l)
	if got := sorts.Sort(l, less); !slices.Equal(got, want) {
		t.Fatalf("Sort(%v) = %v, want %v", l, got, want)
	}
	if !slices.Equal(l, kept) {
		t.Fatalf("%v was changed to %v", kept, l)
	}
}

// stable is what the properties say of sorting by keys.
func stable(l []tagged) []tagged {
	out := slices.Clone(l)
	slices.SortStableFunc(out, func(a, b tagged) int { return cmp.Compare(a.key, b.key) })
	return out
}

func TestExamples(t *testing.T) {
	p := points(4, 0, 0, 9, 0, 1, 4, 0)
	if l := sorts.Order(p); !slices.Equal(l, []int{2, 1, 0, 3}) {
		t.Error("Order", l)
	}
	if l := sorts.Ranks(p); !slices.Equal(l, []int{2, 1, 0, 2}) {
		t.Error("Ranks", l)
	}
	if i, k, ok := sorts.Twice(p); i != 0 || k != 3 || !ok {
		t.Error("Twice", i, k, ok)
	}
	if low, high, ok := sorts.Box(p); low != at(0, 0) || high != at(4, 9) || !ok {
		t.Error("Box", low, high, ok)
	}
	// Of README.md.
	falling := sorts.Sort(p, func(a, b api.Point) bool { return sorts.Less(b, a) })
	if !slices.Equal(falling, points(4, 0, 4, 0, 0, 9, 0, 1)) {
		t.Error("falling", falling)
	}
	if all := sorts.Merge(points(0, 1, 4, 0), points(0, 9, 5, 0), sorts.Less); !slices.Equal(all, points(0, 1, 0, 9, 4, 0, 5, 0)) {
		t.Error("merged", all)
	}
}

func TestLess(t *testing.T) {
	const least, greatest = math.MinInt, math.MaxInt
	for _, x := range []struct {
		a, b         api.Point
		there, again bool
	}{
		// Of one X, of one Y, and the same point.
		{at(3, 1), at(3, 2), true, false}, {at(3, -2), at(3, -1), true, false}, {at(3, -1), at(3, 0), true, false}, {at(-3, 0), at(-3, 9), true, false},
		{at(1, 7), at(2, 7), true, false}, {at(-2, 7), at(-1, 7), true, false}, {at(-1, -7), at(0, -7), true, false},
		{at(0, 0), at(0, 0), false, false}, {at(4, -5), at(4, -5), false, false},
		// Neither: X counts ahead of Y, whatever that is.
		{at(1, 2), at(2, 1), true, false}, {at(1, 1), at(2, 2), true, false}, {at(-1, 100), at(0, -100), true, false}, {at(2, 100), at(100, 2), true, false},
		// No difference of these may wrap round.
		{at(least, 0), at(greatest, 0), true, false}, {at(0, least), at(0, greatest), true, false}, {at(least, greatest), at(greatest, least), true, false},
		{at(least, least), at(least, greatest), true, false}, {at(greatest, least), at(greatest, greatest), true, false}, {at(least, 0), at(1, 0), true, false},
		{at(least, greatest), at(least+1, least), true, false}, {at(greatest-1, greatest), at(greatest, least), true, false}, {at(-2, 0), at(greatest, 0), true, false},
		{at(least, least), at(least, least), false, false}, {at(greatest, greatest), at(greatest, greatest), false, false}, {at(least, greatest), at(least, greatest), false, false},
		{at(0, least), at(0, 1), true, false}, {at(0, -2), at(0, greatest), true, false}, {at(least, greatest-1), at(least, greatest), true, false},
	} {
		if got := sorts.Less(x.a, x.b); got != x.there {
			t.Errorf("Less(%v, %v) = %v", x.a, x.b, got)
		}
		if got := sorts.Less(x.b, x.a); got != x.again {
			t.Errorf("Less(%v, %v) = %v", x.b, x.a, got)
		}
	}
}

// Of two points exactly one is less, or they are the same; and what is less than a lesser one is less.
func TestLessIsAnOrder(t *testing.T) {
	n := []int{math.MinInt, math.MinInt + 1, -1 << 32, -1, 0, 1, 1 << 32, math.MaxInt - 1, math.MaxInt}
	var all []api.Point
	for _, x := range n {
		for _, y := range n {
			all = append(all, at(x, y))
		}
	}
	// They were made in their order.
	for i, a := range all {
		for k, b := range all {
			if got := sorts.Less(a, b); got != (i < k) {
				t.Errorf("Less(%v, %v) = %v", a, b, got)
			}
		}
	}
}

func TestMergeOfEmptyRows(t *testing.T) {
	for _, none := range [][]tagged{nil, {}} {
		for _, other := range [][]tagged{nil, {}} {
			checkMerge(t, none, other, byKey, nil)
			checkMerge(t, none, other, always, nil)
		}
		for _, l := range [][]tagged{row(1, 5), row(1, 5, 5), row(1, 1, 2, 3), row(1, 3, 2, 1), row(1, 2, 9, 2, 9, 2)} {
			for _, less := range []relation{byKey, always, never} {
				checkMerge(t, l, none, less, l)
				checkMerge(t, none, l, less, l)
			}
		}
	}
}

func TestMerge(t *testing.T) {
	for _, x := range []struct {
		a, b []int
		want []int // The tags: 0 on for a, 10 on for b.
	}{
		// One behind the other, and taking turns.
		{[]int{1, 2}, []int{3, 4}, []int{0, 1, 10, 11}}, {[]int{3, 4}, []int{1, 2}, []int{10, 11, 0, 1}}, {[]int{1, 3, 5}, []int{2, 4, 6}, []int{0, 10, 1, 11, 2, 12}},
		{[]int{2, 4}, []int{1, 3, 5}, []int{10, 0, 11, 1, 12}}, {[]int{1, 9}, []int{2, 3, 4}, []int{0, 10, 11, 12, 1}}, {[]int{5}, []int{1, 9}, []int{10, 0, 11}},
		// Equal ones in both rows: those of a come first.
		{[]int{5}, []int{5}, []int{0, 10}}, {[]int{5, 5}, []int{5, 5}, []int{0, 1, 10, 11}}, {[]int{1, 5, 5}, []int{5, 6}, []int{0, 1, 2, 10, 11}},
		{[]int{5, 6}, []int{1, 5, 5, 6}, []int{10, 0, 11, 12, 1, 13}}, {[]int{0, 0, 1}, []int{0, 1, 1}, []int{0, 1, 10, 2, 11, 12}},
		// Rows that are not sorted: only the first ones that remain count.
		{[]int{5, 1}, []int{3, 2}, []int{10, 11, 0, 1}}, {[]int{3, 1}, []int{4, 0}, []int{0, 1, 10, 11}}, {[]int{4, 0, 9}, []int{5, 1, 1}, []int{0, 1, 10, 11, 12, 2}},
		{[]int{9, 8, 7}, []int{3, 2, 1}, []int{10, 11, 12, 0, 1, 2}}, {[]int{2, 1}, []int{2, 1}, []int{0, 1, 10, 11}}, {[]int{6, 1, 6}, []int{2, 7, 0}, []int{10, 0, 1, 2, 11, 12}},
	} {
		got := sorts.Merge(row(0, x.a...), row(10, x.b...), byKey)
		if !slices.Equal(tags(got), x.want) {
			t.Errorf("Merge(%v, %v) = %v, want %v", x.a, x.b, tags(got), x.want)
		}
	}
	checkMerge(t, row(1, 1, 2), row(11, 3, 4), always, append(row(11, 3, 4), row(1, 1, 2)...))
	checkMerge(t, row(1, 3, 4), row(11, 1, 2), never, append(row(1, 3, 4), row(11, 1, 2)...))
}

func TestMergeOfAllShortRows(t *testing.T) {
	sequences(3, 4, func(a []int) {
		sequences(3, 4, func(b []int) {
			l, m := row(0, a...), row(10, b...)
			for _, less := range []relation{byKey, always, never} {
				checkMerge(t, l, m, less, wantMerge(l, m, less))
			}
			if slices.IsSorted(a) && slices.IsSorted(b) {
				checkMerge(t, l, m, byKey, stable(append(l, m...)))
			}
		})
	})
}

// A row with itself, and two rows of one slice, one ahead of the other or one within the other.
func TestMergeOfRowsThatShare(t *testing.T) {
	l := row(0, 1, 3, 5, 2, 4, 6)
	for from := range len(l) + 1 {
		for to := from; to <= len(l); to++ {
			for k := range len(l) + 1 {
				checkMerge(t, l[from:to], l[k:], byKey, wantMerge(l[from:to], l[k:], byKey))
				checkMerge(t, l[:k], l[from:to], byKey, wantMerge(l[:k], l[from:to], byKey))
			}
		}
	}
}

func TestSort(t *testing.T) {
	for _, x := range []struct{ keys, want []int }{
		{nil, nil}, {[]int{}, nil}, {[]int{7}, []int{0}},
		// Two: rising, falling, equal.
		{[]int{1, 2}, []int{0, 1}}, {[]int{2, 1}, []int{1, 0}}, {[]int{2, 2}, []int{0, 1}},
		// Odd and even, rising, falling, all equal.
		{[]int{1, 2, 3}, []int{0, 1, 2}}, {[]int{3, 2, 1}, []int{2, 1, 0}}, {[]int{4, 4, 4}, []int{0, 1, 2}}, {[]int{1, 2, 3, 4}, []int{0, 1, 2, 3}}, {[]int{4, 3, 2, 1}, []int{3, 2, 1, 0}},
		{[]int{4, 4, 4, 4}, []int{0, 1, 2, 3}}, {[]int{5, 4, 3, 2, 1}, []int{4, 3, 2, 1, 0}}, {[]int{9, 9, 9, 9, 9}, []int{0, 1, 2, 3, 4}},
		// Alike for less, and not the same: in their given order, from both halves.
		{[]int{3, 1, 3, 1, 0}, []int{4, 1, 3, 0, 2}}, {[]int{2, 1, 2, 1, 2, 1}, []int{1, 3, 5, 0, 2, 4}}, {[]int{1, 0, 1, 0, 1}, []int{1, 3, 0, 2, 4}}, {[]int{5, 5, 1, 1, 5, 1, 5}, []int{2, 3, 5, 0, 1, 4, 6}},
		{[]int{math.MaxInt, math.MinInt, 0, math.MaxInt, math.MinInt}, []int{1, 4, 2, 0, 3}},
	} {
		if got := sorts.Sort(row(0, x.keys...), byKey); !slices.Equal(tags(got), x.want) {
			t.Errorf("Sort(%v) = %v, want %v", x.keys, tags(got), x.want)
		}
	}
}

func TestSortOfAllShortRows(t *testing.T) {
	sequences(4, 6, func(keys []int) {
		l := row(0, keys...)
		checkSort(t, l, byKey, stable(l))
	})
}

// Rows of each length, odd and even, in several orders.
func TestSortOfLengths(t *testing.T) {
	r := rand.New(rand.NewPCG(71, 1))
	for n := range 200 {
		for _, key := range []func(i int) int{
			func(i int) int { return i }, func(i int) int { return -i }, func(int) int { return 5 }, func(i int) int { return i % 3 }, func(i int) int { return -i / 4 },
			func(int) int { return r.IntN(n + 1) }, func(int) int { return r.IntN(4) }, func(int) int { return int(r.Uint64()) },
		} {
			var keys []int
			for i := range n {
				keys = append(keys, key(i))
			}
			l := row(0, keys...)
			checkSort(t, l, byKey, stable(l))
		}
	}
}

// Long rows end soon: a merge sort asks at most once for each element of each row that it makes.
func TestSortOfLongRows(t *testing.T) {
	const n = 100000
	r := rand.New(rand.NewPCG(71, 2))
	for _, key := range []func(i int) int{
		func(i int) int { return i }, func(i int) int { return -i }, func(int) int { return 5 }, func(i int) int { return i % 1000 }, func(int) int { return r.IntN(n) },
	} {
		var l []tagged
		for i := range n {
			l = append(l, tagged{key(i), i})
		}
		asked := 0
		got := sorts.Sort(l, func(a, b tagged) bool {
			asked++
			return a.key < b.key
		})
		if !slices.Equal(got, stable(l)) {
			t.Error("a long row is not sorted")
		}
		if asked > n*bits.Len(n) {
			t.Errorf("less was asked %d times for %d elements", asked, n)
		}
	}
}

// The first half is that of the lesser number of elements: which elements are held against each other shows it.
func TestHalves(t *testing.T) {
	for _, x := range []struct {
		n     int
		pairs [][2]int // In less(b, a), where all are rising.
	}{
		{2, [][2]int{{1, 0}}},
		{3, [][2]int{{1, 0}, {2, 1}}},
		{4, [][2]int{{1, 0}, {2, 0}, {2, 1}, {3, 2}}},
		{5, [][2]int{{1, 0}, {2, 0}, {2, 1}, {3, 2}, {4, 3}}},
		{7, [][2]int{{1, 0}, {2, 1}, {3, 0}, {3, 1}, {3, 2}, {4, 3}, {5, 3}, {5, 4}, {6, 5}}},
	} {
		var l []tagged
		for i := range x.n {
			l = append(l, tagged{i, i})
		}
		var pairs [][2]int
		sorts.Sort(l, func(b, a tagged) bool {
			pairs = append(pairs, [2]int{b.tag, a.tag})
			return false
		})
		slices.SortFunc(pairs, func(a, b [2]int) int { return slices.Compare(a[:], b[:]) })
		if !slices.Equal(pairs, x.pairs) {
			t.Errorf("of %d elements less was asked %v, want %v", x.n, pairs, x.pairs)
		}
	}
}

// A less that always answers true takes all of the second row first, and so turns each row round.
func TestLessThatIsAlwaysTheSame(t *testing.T) {
	for n := range 70 {
		l := row(0, slices.Repeat([]int{5, 3, 9}, n)[:n]...)
		checkSort(t, l, never, l)
		back := slices.Clone(l)
		slices.Reverse(back)
		checkSort(t, l, always, back)
	}
}

// All relations of three keys, most of which are no order.
func TestAllRelations(t *testing.T) {
	for set := range 1 << 9 {
		less := func(a, b tagged) bool { return set>>(3*a.key+b.key)&1 == 1 }
		sequences(3, 5, func(keys []int) {
			l := row(0, keys...)
			checkSort(t, l, less, wantSort(l, less))
			half := len(l) / 3
			checkMerge(t, l[:half], l[half:], less, wantMerge(l[:half], l[half:], less))
		})
	}
}

// answers is a less that answers otherwise from call to call.
func answers(said []byte) relation {
	n := 0
	return func(a, b tagged) bool {
		n++
		return len(said) > 0 && said[n%len(said)]&1 == 1
	}
}

// checkAll wants exactly the elements with the tags 0 to n - 1.
func checkAll(t *testing.T, got []tagged, n int) {
	t.Helper()
	l := tags(got)
	slices.Sort(l)
	for i := range n {
		if len(l) != n || l[i] != i {
			t.Fatalf("of %d elements came %v", n, got)
		}
	}
}

// checkAnyLess wants of a less that answers anything that no element is lost, doubled or another one; merged rows keep their order.
func checkAnyLess(t *testing.T, n, half int, said []byte) {
	t.Helper()
	l := row(0, slices.Repeat([]int{4}, n)...)
	checkAll(t, sorts.Sort(l, answers(said)), n)
	merged := sorts.Merge(l[:half], l[half:], answers(said))
	checkAll(t, merged, n)
	var a, b []tagged
	for _, x := range merged {
		if x.tag < half {
			a = append(a, x)
		} else {
			b = append(b, x)
		}
	}
	if !slices.Equal(a, l[:half]) || !slices.Equal(b, l[half:]) {
		t.Fatalf("rows of %d and %d were merged to %v", half, n-half, merged)
	}
}

func TestLessThatAnswersOtherwise(t *testing.T) {
	r := rand.New(rand.NewPCG(71, 3))
	for _, said := range []string{"01", "10", "001", "110", "0111", "10000"} {
		for n := range 40 {
			checkAnyLess(t, n, n/2, []byte(said))
			checkAnyLess(t, n, n/5, []byte(said))
		}
	}
	for range 5000 {
		n := r.IntN(50)
		said := make([]byte, 1+r.IntN(300))
		for i := range said {
			said[i] = byte(r.IntN(2))
		}
		checkAnyLess(t, n, r.IntN(n+1), said)
	}
}

// R3: less is asked only of elements of the rows; by Merge of one of b, then of one of a, and no more once a row is exhausted.
func TestLessIsAskedOfElements(t *testing.T) {
	r := rand.New(rand.NewPCG(71, 4))
	for range 3000 {
		a, b := make([]*tagged, r.IntN(12)), make([]*tagged, r.IntN(12))
		for _, l := range [][]*tagged{a, b} {
			for i := range l {
				l[i] = &tagged{key: r.IntN(6)}
			}
		}
		asked := 0
		less := func(x, y *tagged) bool {
			asked++
			if !slices.Contains(b, x) || !slices.Contains(a, y) {
				t.Fatal("Merge asked of others")
			}
			return x.key < y.key
		}
		sorts.Merge(a, b, less)
		if most := max(len(a)+len(b)-1, 0); asked > most || min(len(a), len(b)) == 0 && asked > 0 {
			t.Fatalf("Merge asked %d times for %d and %d elements", asked, len(a), len(b))
		}
		sorts.Sort(a, func(x, y *tagged) bool {
			if x == y || !slices.Contains(a, x) || !slices.Contains(a, y) {
				t.Fatal("Sort asked of others, or of one element twice")
			}
			return x.key < y.key
		})
	}
	asked := 0
	count := func(a, b tagged) bool {
		asked++
		return true
	}
	sorts.Sort(nil, count)
	sorts.Sort(row(0, 1), count)
	sorts.Merge(row(0, 1, 2), nil, count)
	sorts.Merge(nil, row(0, 1, 2), count)
	sorts.Merge(nil, nil, count)
	if asked > 0 {
		t.Errorf("less was asked %d times where there is nothing to ask", asked)
	}
}

// A less that is not there takes nothing for less: the chapter promises nothing, but no call panics.
func TestNilLess(t *testing.T) {
	l, m := row(0, 3, 1, 2), row(3, 2, 0)
	checkSort(t, l, nil, l)
	checkMerge(t, l, m, nil, append(slices.Clone(l), m...))
	checkSort(t, nil, nil, nil)
	checkMerge(t, nil, nil, nil, nil)
}

// Elements of any kind are sorted, those too that cannot be compared, and those without a size.
func TestElementsOfAnyKind(t *testing.T) {
	words := []string{"pear", "fig", "apple", "", "fig"}
	if l := sorts.Sort(words, func(a, b string) bool { return a < b }); !slices.Equal(l, []string{"", "apple", "fig", "fig", "pear"}) {
		t.Error(l)
	}
	rows := [][]int{{3, 1}, nil, {1}, {2, 2, 2}}
	if l := sorts.Sort(rows, func(a, b []int) bool { return len(a) > len(b) }); len(l) != 4 || &l[0][0] != &rows[3][0] || &l[1][0] != &rows[0][0] || &l[2][0] != &rows[2][0] || l[3] != nil {
		t.Error(l)
	}
	if l := sorts.Sort(make([]struct{}, 1000), func(a, b struct{}) bool { return true }); len(l) != 1000 {
		t.Error(len(l))
	}
	functions := []func() int{func() int { return 2 }, func() int { return 1 }}
	if l := sorts.Merge(functions[:1], functions[1:], func(a, b func() int) bool { return a() < b() }); len(l) != 2 || l[0]() != 1 || l[1]() != 2 {
		t.Error("functions")
	}
	numbers := []float64{2, math.NaN(), 1, math.NaN(), 0}
	l := sorts.Sort(numbers, func(a, b float64) bool { return a < b })
	slices.Sort(l)
	if len(l) != 5 || !math.IsNaN(l[0]) || !math.IsNaN(l[1]) || !slices.Equal(l[2:], []float64{0, 1, 2}) {
		t.Error(l)
	}
	if l := sorts.Merge([]any{1, "a"}, []any{nil}, func(a, b any) bool { return a == nil }); !slices.Equal(l, []any{nil, 1, "a"}) {
		t.Error(l)
	}
}

// A less that itself sorts disturbs nothing.
func TestLessThatSorts(t *testing.T) {
	l := row(0, 4, 1, 3, 1, 0, 4, 2)
	got := sorts.Sort(l, func(a, b tagged) bool {
		two := sorts.Sort([]tagged{b, a}, byKey)
		return two[0] == a && a != b && a.key != b.key
	})
	if !slices.Equal(got, stable(l)) {
		t.Error(got)
	}
}

// Named edges, with what is to come written out.
func TestOrderRanksAndTwice(t *testing.T) {
	const least, greatest = math.MinInt, math.MaxInt
	for _, x := range []struct {
		p            []api.Point
		order, ranks []int
		i, k         int
		ok           bool
	}{
		{nil, nil, nil, 0, 0, false}, {[]api.Point{}, nil, nil, 0, 0, false}, {points(3, 4), []int{0}, []int{0}, 0, 0, false},
		// Of one place.
		{points(3, 4, 3, 4), []int{0, 1}, []int{0, 0}, 0, 1, true}, {points(3, 4, 3, 4, 3, 4), []int{0, 1, 2}, []int{0, 0, 0}, 0, 1, true}, {points(0, 0, 0, 0, 0, 0, 0, 0), []int{0, 1, 2, 3}, []int{0, 0, 0, 0}, 0, 1, true},
		// Of two places.
		{points(1, 2, 1, 3), []int{0, 1}, []int{0, 1}, 0, 0, false}, {points(1, 3, 1, 2), []int{1, 0}, []int{1, 0}, 0, 0, false}, {points(2, 1, 1, 1, 2, 1), []int{1, 0, 2}, []int{1, 0, 1}, 0, 2, true},
		{points(1, 1, 2, 1, 2, 1), []int{0, 1, 2}, []int{0, 1, 1}, 1, 2, true}, {points(2, 1, 2, 1, 1, 1), []int{2, 0, 1}, []int{1, 1, 0}, 0, 1, true}, {points(2, 1, 1, 1, 1, 1, 1, 1), []int{1, 2, 3, 0}, []int{1, 0, 0, 0}, 1, 2, true},
		// Two pairs: one inside the other, whichever is less; one behind the other; and taking turns.
		{points(9, 0, 1, 0, 1, 0, 9, 0), []int{1, 2, 0, 3}, []int{1, 0, 0, 1}, 0, 3, true}, {points(1, 0, 9, 0, 9, 0, 1, 0), []int{0, 3, 1, 2}, []int{0, 1, 1, 0}, 0, 3, true},
		{points(9, 0, 9, 0, 1, 0, 1, 0), []int{2, 3, 0, 1}, []int{1, 1, 0, 0}, 0, 1, true}, {points(1, 0, 1, 0, 9, 0, 9, 0), []int{0, 1, 2, 3}, []int{0, 0, 1, 1}, 0, 1, true},
		{points(9, 0, 1, 0, 9, 0, 1, 0), []int{1, 3, 0, 2}, []int{1, 0, 1, 0}, 0, 2, true}, {points(1, 0, 9, 0, 1, 0, 9, 0), []int{0, 2, 1, 3}, []int{0, 1, 0, 1}, 0, 2, true},
		{points(5, 5, 9, 0, 1, 0, 1, 0, 9, 0), []int{2, 3, 0, 1, 4}, []int{1, 2, 0, 0, 2}, 1, 4, true}, {points(5, 5, 1, 0, 9, 9, 9, 9, 0, 0, 1, 0), []int{4, 1, 5, 0, 2, 3}, []int{2, 1, 3, 3, 0, 1}, 1, 5, true},
		// Several that are the same: different ones are counted once.
		{points(2, 0, 1, 0, 1, 0, 1, 0, 3, 0, 2, 0), []int{1, 2, 3, 0, 5, 4}, []int{1, 0, 0, 0, 2, 1}, 0, 5, true},
		// X and Y the other way round, and alike in one of them.
		{points(1, 2, 2, 1), []int{0, 1}, []int{0, 1}, 0, 0, false}, {points(2, 1, 1, 2), []int{1, 0}, []int{1, 0}, 0, 0, false}, {points(0, 1, 1, 0, 0, 0, 1, 1), []int{2, 0, 1, 3}, []int{1, 2, 0, 3}, 0, 0, false},
		// The least and the greatest numbers.
		{points(greatest, least, least, greatest, 0, 0, least, least, greatest, greatest), []int{3, 1, 2, 0, 4}, []int{3, 1, 2, 0, 4}, 0, 0, false},
		{points(greatest, 0, least, 0, greatest, 0), []int{1, 0, 2}, []int{1, 0, 1}, 0, 2, true},
	} {
		if l := sorts.Order(x.p); !slices.Equal(l, x.order) {
			t.Errorf("Order(%v) = %v, want %v", x.p, l, x.order)
		}
		if l := sorts.Ranks(x.p); !slices.Equal(l, x.ranks) {
			t.Errorf("Ranks(%v) = %v, want %v", x.p, l, x.ranks)
		}
		if i, k, ok := sorts.Twice(x.p); i != x.i || k != x.k || ok != x.ok {
			t.Errorf("Twice(%v) = %d, %d, %v, want %d, %d, %v", x.p, i, k, ok, x.i, x.k, x.ok)
		}
		check(t, x.p)
	}
}

func TestBox(t *testing.T) {
	const least, greatest = math.MinInt, math.MaxInt
	for _, x := range []struct {
		p         []api.Point
		low, high api.Point
		ok        bool
	}{
		{nil, at(0, 0), at(0, 0), false}, {[]api.Point{}, at(0, 0), at(0, 0), false},
		{points(3, -4), at(3, -4), at(3, -4), true}, {points(0, 0), at(0, 0), at(0, 0), true}, {points(least, greatest), at(least, greatest), at(least, greatest), true},
		{points(3, 4, 3, 4), at(3, 4), at(3, 4), true},
		// No corner is a point: the smallest X and the smallest Y, and the greatest ones, belong to different points.
		{points(1, 9, 5, 2), at(1, 2), at(5, 9), true}, {points(5, 2, 1, 9), at(1, 2), at(5, 9), true}, {points(0, 5, 5, 0, 9, 5, 5, 9), at(0, 0), at(9, 9), true},
		// All on one side of 0.
		{points(3, 4, 2, 7), at(2, 4), at(3, 7), true}, {points(-3, -4, -2, -7), at(-3, -7), at(-2, -4), true}, {points(-3, 4, -2, 7), at(-3, 4), at(-2, 7), true}, {points(3, -4, 2, -7), at(2, -7), at(3, -4), true},
		// On one line.
		{points(1, 5, 7, 5, 4, 5), at(1, 5), at(7, 5), true}, {points(5, 4, 5, 1, 5, 7), at(5, 1), at(5, 7), true},
		// The least and the greatest numbers.
		{points(least, greatest, greatest, least), at(least, least), at(greatest, greatest), true}, {points(least, 0, 0, greatest, greatest, 0, 0, least), at(least, least), at(greatest, greatest), true},
		{points(least, least, least+1, least+1), at(least, least), at(least+1, least+1), true}, {points(greatest, greatest, greatest-1, greatest-1), at(greatest-1, greatest-1), at(greatest, greatest), true},
	} {
		low, high, ok := sorts.Box(x.p)
		if low != x.low || high != x.high || ok != x.ok {
			t.Errorf("Box(%v) = %v, %v, %v, want %v, %v, %v", x.p, low, high, ok, x.low, x.high, x.ok)
		}
		check(t, x.p)
	}
}

// All rows of a few places, in each order, with some of them several times.
func TestSmallSets(t *testing.T) {
	const least, greatest = math.MinInt, math.MaxInt
	for _, x := range []struct {
		places []api.Point
		most   int
	}{
		{points(0, 0, 1, 0), 9}, {points(0, 0, 0, 1), 9}, {points(0, -1, -1, 0, 0, 0), 7}, {points(0, 0, 0, 1, 1, 0, 1, 1), 6},
		{points(least, greatest, greatest, least, least, least, 0, 0), 6}, {points(2, 1, 1, 2, -1, 1, 1, -1, 0, 7, 7, 0), 5},
	} {
		sequences(len(x.places), x.most, func(l []int) {
			var p []api.Point
			for _, i := range l {
				p = append(p, x.places[i])
			}
			check(t, p)
		})
	}
}

// draws calls f with points of several kinds, the same ones in each run: few places or many, near to each other or far.
func draws(n int, f func(r *rand.Rand, p []api.Point)) {
	r := rand.New(rand.NewPCG(71, 5))
	for range n {
		size := 1 << r.IntN(40)
		if r.IntN(2) == 0 {
			size = 1 + r.IntN(6)
		}
		p := make([]api.Point, r.IntN(30))
		for i := range p {
			p[i] = at(r.IntN(2*size+1)-size, r.IntN(2*size+1)-size)
		}
		f(r, p)
	}
}

func TestDrawnPoints(t *testing.T) {
	twice := 0
	draws(10000, func(_ *rand.Rand, p []api.Point) {
		check(t, p)
		if _, _, ok := sorts.Twice(p); ok {
			twice++
		}
	})
	if twice < 2000 || twice > 8000 {
		t.Errorf("of 10000 rows %d had a place twice", twice)
	}
	r := rand.New(rand.NewPCG(71, 6))
	for range 2000 {
		var p []api.Point
		for range r.IntN(20) {
			p = append(p, at(int(r.Uint64()), int(r.Uint64())))
		}
		check(t, p)
	}
}

// As many points as a mesh may have, and more.
func TestManyPoints(t *testing.T) {
	r := rand.New(rand.NewPCG(71, 7))
	for _, n := range []int{api.MaxPoints, api.MaxPlaces, 1501} {
		for _, size := range []int{1, 20, 1000, api.MaxPlace} {
			p := make([]api.Point, n)
			for i := range p {
				p[i] = at(r.IntN(size), -r.IntN(size))
			}
			check(t, p)
		}
	}
}

// P5: Twice finds a place that is there twice, wherever both stand, and nothing where all are different.
func TestOnePlaceTwice(t *testing.T) {
	const n = 40
	p := make([]api.Point, n)
	for i := range p {
		p[i] = at(i*17%n, i*23%7)
	}
	if i, k, ok := sorts.Twice(p); i != 0 || k != 0 || ok {
		t.Errorf("Twice = %d, %d, %v, but all are different", i, k, ok)
	}
	for a := range n {
		for b := a + 1; b < n; b++ {
			q := slices.Clone(p)
			q[b] = q[a]
			if i, k, ok := sorts.Twice(q); i != a || k != b || !ok {
				t.Errorf("Twice = %d, %d, %v, want %d, %d", i, k, ok, a, b)
			}
		}
	}
}

// P4: with other numbers the points stand in the same order, with the same ranks, in the same box.
func TestOtherNumbers(t *testing.T) {
	draws(10000, func(r *rand.Rand, p []api.Point) {
		old := r.Perm(len(p))
		q := make([]api.Point, len(p))
		for i, k := range old {
			q[i] = p[k]
		}
		for n, i := range sorts.Order(q) {
			if q[i] != p[sorts.Order(p)[n]] {
				t.Fatalf("%v and %v have other orders", p, q)
			}
		}
		ranks := sorts.Ranks(p)
		for i, rank := range sorts.Ranks(q) {
			if rank != ranks[old[i]] {
				t.Fatalf("Ranks(%v) = %v, but %v for %v", q, sorts.Ranks(q), ranks, p)
			}
		}
		i, k, ok := sorts.Twice(q)
		if _, _, before := sorts.Twice(p); ok != before || ok && (i >= k || q[i] != q[k]) {
			t.Fatalf("Twice(%v) = %d, %d, %v, but %v for %v", q, i, k, ok, before, p)
		}
		checkBox(t, q, p, func(p api.Point) api.Point { return p })
	})
}

// checkBox wants the box of q to be that of p, with its corners led elsewhere by f.
func checkBox(t *testing.T, q, p []api.Point, f func(api.Point) api.Point) {
	t.Helper()
	low, high, ok := sorts.Box(q)
	a, b, before := sorts.Box(p)
	if ok != before || ok && (low != f(a) || high != f(b)) {
		t.Fatalf("Box(%v) = %v, %v, %v, but %v, %v, %v for %v", q, low, high, ok, a, b, before, p)
	}
}

// checkMoved wants that nothing but the box changes, which moves with the points.
func checkMoved(t *testing.T, p []api.Point, by api.Point) {
	t.Helper()
	move := func(p api.Point) api.Point { return at(p.X+by.X, p.Y+by.Y) }
	q := each(p, move)
	i, k, ok := sorts.Twice(p)
	i2, k2, ok2 := sorts.Twice(q)
	if i != i2 || k != k2 || ok != ok2 || !slices.Equal(sorts.Order(p), sorts.Order(q)) || !slices.Equal(sorts.Ranks(p), sorts.Ranks(q)) {
		t.Fatalf("%v and %v have other answers", p, q)
	}
	for n := range min(len(p), 5) {
		for m := range p {
			if sorts.Less(p[n], p[m]) != sorts.Less(q[n], q[m]) {
				t.Fatalf("Less of %v, %v and of %v, %v differ", p[n], p[m], q[n], q[m])
			}
		}
	}
	checkBox(t, q, p, move)
}

// P4: translation changes no answer, up to the least and the greatest int.
func TestMoved(t *testing.T) {
	const most = math.MaxInt - 1<<40
	draws(3000, func(r *rand.Rand, p []api.Point) {
		for _, by := range []api.Point{
			at(1, -1), at(-977, 12345), at(1<<40, 1<<40), at(1<<62, -1<<62), at(most, most), at(-most, most), at(most, -most), at(-most, -most), at(0, r.IntN(most)), at(-r.IntN(most), 0),
		} {
			checkMoved(t, p, by)
		}
	})
	corner := points(0, 1, 1, 0, 0, 0, 1, 1, 0, 1)
	for _, x := range []int{math.MinInt, -1, 0, math.MaxInt - 1} {
		for _, y := range []int{math.MinInt, -1, 0, math.MaxInt - 1} {
			checkMoved(t, corner, at(x, y))
		}
	}
}

// P4: a quarter turn changes neither which points are alike nor the box, but for its corners.
func TestTurned(t *testing.T) {
	draws(3000, func(_ *rand.Rand, p []api.Point) {
		q := each(p, func(p api.Point) api.Point { return at(-p.Y, p.X) })
		i, k, ok := sorts.Twice(p)
		if i2, k2, ok2 := sorts.Twice(q); i != i2 || k != k2 || ok != ok2 {
			t.Fatalf("Twice of %v and of %v differ", p, q)
		}
		low, high, _ := sorts.Box(p)
		if a, b, _ := sorts.Box(q); a != at(-high.Y, low.X) || b != at(-low.Y, high.X) {
			t.Fatalf("Box of %v and of %v differ", p, q)
		}
	})
}

// checkOwn wants of call, which takes parts of room: it changes nothing there, whatever is behind those parts; two results share nothing with it, nor with each other, up to their capacities.
func checkOwn[T, R comparable](t *testing.T, name string, room []T, otherT T, otherR R, call func() []R) {
	t.Helper()
	kept := slices.Clone(room)
	first, second := call(), call()
	want := slices.Clone(second)
	if !slices.Equal(first, second) {
		t.Errorf("%s answers %v, then %v", name, first, second)
	}
	fill(first, otherR)
	if !slices.Equal(room, kept) {
		t.Errorf("%s: %v became %v when it was called, or its result changed", name, kept, room)
	}
	fill(room, otherT)
	if !slices.Equal(second, want) {
		t.Errorf("%s: the result %v became %v when other slices changed", name, want, second)
	}
	if third := append(second, otherR); len(third) > 0 && !slices.Equal(third[:len(want)], want) {
		t.Errorf("%s: the result %v became %v when it was extended", name, want, third)
	}
	fill(second, otherR)
	for _, x := range room {
		if x != otherT {
			t.Errorf("%s: an argument changed with the second result", name)
		}
	}
}

// fill makes all elements x, the ones behind the end too.
func fill[T any](l []T, x T) {
	l = l[:cap(l)]
	for i := range l {
		l[i] = x
	}
}

// R2: arguments are unchanged, and results are the caller's own.
func TestResultsAreNewMemory(t *testing.T) {
	other := tagged{-1, -1}
	for n := range 9 {
		for k := range n + 1 {
			for _, less := range []relation{byKey, always, never, nil} {
				rows := row(1, 3, 1, 2, 2, 5, 0, 4, 9, 9, 7, 8)
				checkOwn(t, "Merge", rows, other, other, func() []tagged { return sorts.Merge(rows[:k], rows[k:n], less) })
				rows = row(1, 3, 1, 2, 2, 5, 0, 4, 9, 9, 7, 8)
				checkOwn(t, "Sort", rows, other, other, func() []tagged { return sorts.Sort(rows[k:n], less) })
			}
			p := points(3, 1, 1, 2, 3, 1, 0, 0, 0, 5, 1, 2, 7, 7, 3, 1, 9, 9, 8, 8)
			checkOwn(t, "Order", p, at(6, 6), -1, func() []int { return sorts.Order(p[k:n]) })
			p = points(3, 1, 1, 2, 3, 1, 0, 0, 0, 5, 1, 2, 7, 7, 3, 1, 9, 9, 8, 8)
			checkOwn(t, "Ranks", p, at(6, 6), -1, func() []int { return sorts.Ranks(p[k:n]) })
		}
	}
	room := points(3, 1, 1, 2, 3, 1, 0, 0, 9, 9)
	kept := slices.Clone(room)
	sorts.Twice(room[:3])
	sorts.Box(room[:3])
	if !slices.Equal(room, kept) {
		t.Errorf("%v became %v", kept, room)
	}
	// What is behind the end counts nothing.
	if i, k, ok := sorts.Twice(room[:2]); i != 0 || k != 0 || ok {
		t.Error("Twice", i, k, ok)
	}
	if low, high, ok := sorts.Box(room[:2]); low != at(1, 1) || high != at(3, 2) || !ok {
		t.Error("Box", low, high, ok)
	}
}

// R4: what was asked ahead changes no answer.
func TestSameAgain(t *testing.T) {
	rows := [][]api.Point{nil, points(3, 4), points(1, 1, 0, 0, 1, 1), points(0, 9, 9, 0, 5, 5), points(2, 2, 2, 2, 2, 2), points(math.MaxInt, 0, math.MinInt, 0)}
	for _, p := range rows {
		for _, q := range rows {
			check(t, p)
			check(t, q)
			check(t, p)
			sorts.Sort(row(0, 3, 2, 1), always)
			checkSort(t, row(0, 2, 1, 1), byKey, []tagged{{1, 1}, {1, 2}, {2, 0}})
		}
	}
}

// R6: no result of empty slices has an element, and nil is as empty as others are.
func TestNilAndEmpty(t *testing.T) {
	for _, p := range [][]api.Point{nil, {}, points(1, 2, 1, 2)[:0]} {
		if l := sorts.Order(p); len(l) != 0 {
			t.Error("Order", l)
		}
		if l := sorts.Ranks(p); len(l) != 0 {
			t.Error("Ranks", l)
		}
		if l := sorts.Sort(p, sorts.Less); len(l) != 0 {
			t.Error("Sort", l)
		}
		if l := sorts.Merge(p, p, sorts.Less); len(l) != 0 {
			t.Error("Merge", l)
		}
		if l := sorts.Merge(p, points(7, 8), sorts.Less); !slices.Equal(l, points(7, 8)) {
			t.Error("Merge", l)
		}
		check(t, p)
	}
}

func FuzzPoints(f *testing.F) {
	f.Add([]byte{}, 0, 0)
	f.Add([]byte{4, 0, 0, 9, 0, 1, 4, 0}, 0, 0)
	f.Add([]byte{1, 2, 2, 1, 1, 2, 2, 1}, math.MaxInt, math.MinInt)
	f.Fuzz(func(t *testing.T, b []byte, x, y int) {
		var p []api.Point
		for i := 0; i+1 < min(len(b), 200); i += 2 {
			p = append(p, at(int(b[i])+x, int(b[i+1])+y))
		}
		check(t, p)
	})
}

func FuzzAnswers(f *testing.F) {
	f.Add(uint8(0), uint8(0), []byte{})
	f.Add(uint8(7), uint8(3), []byte("0110"))
	f.Add(uint8(40), uint8(40), []byte("1"))
	f.Fuzz(func(t *testing.T, n, half uint8, said []byte) {
		checkAnyLess(t, int(n), int(min(n, half)), said)
	})
}
