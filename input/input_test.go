package input_test

import (
	"bytes"
	"math"
	"math/big"
	"math/rand/v2"
	"regexp"
	"slices"
	"strconv"
	"strings"
	"testing"

	"parquet/api"
	"parquet/input"
)

// The calls that the chapter lists, with their exact signatures: a change of one does not compile.
var (
	_ func(api.Poly) api.Errno                = input.Check
	_ func(api.Poly) (string, api.Errno)      = input.Print
	_ func([]byte) (api.Poly, int, api.Errno) = input.Parse
)

const (
	maxPlace  = api.MaxPlace
	maxPoints = api.MaxPoints
	maxSegs   = api.MaxSegs
)

func at(x, y int) api.Point {
	return api.Point{X: x, Y: y}
}

func seg(a, b int) api.Seg {
	return api.Seg{A: a, B: b}
}

// copied is p in memory of its own, without spare capacity.
func copied(p api.Poly) api.Poly {
	return api.Poly{P: slices.Clip(slices.Clone(p.P)), L: slices.Clip(slices.Clone(p.L)), I: slices.Clip(slices.Clone(p.I))}
}

func same(p, q api.Poly) bool {
	return slices.Equal(p.P, q.P) && slices.Equal(p.L, q.L) && slices.Equal(p.I, q.I)
}

func isZero(p api.Poly) bool {
	return len(p.P) == 0 && len(p.L) == 0 && len(p.I) == 0
}

// shown is a text for a message, cut if it is long.
func shown(s string) string {
	if len(s) > 300 {
		return strconv.Quote(s[:300]) + ".."
	}
	return strconv.Quote(s)
}

// What the chapter says, told another way: the words of a text line by line, and for each its bounds by its number alone.

type word struct {
	at   int
	text string
}

var (
	inLine = regexp.MustCompile(`[^ \t\r]+`)
	exact  = regexp.MustCompile(`\A(0|-?[1-9][0-9]*)\z`)
)

func plainWords(s string) []word {
	var l []word
	from := 0
	for _, line := range strings.Split(s, "\n") {
		for _, span := range inLine.FindAllStringIndex(line, -1) {
			if line[span[0]] == '#' {
				break
			}
			l = append(l, word{from + span[0], line[span[0]:span[1]]})
		}
		from += len(line) + 1
	}
	return l
}

// bounds are those of the number with that index, behind the keyword and the numbers ahead of it; false if there is none any more.
func bounds(ahead []int) (least, most int, ok bool) {
	i := len(ahead)
	switch {
	case i == 0:
		return 0, 200, true
	case i <= 2:
		return 0, 400, true
	case i < 3+2*ahead[0]:
		return -1048576, 1048576, true
	}
	return 0, ahead[0] - 1, i < 3+2*(ahead[0]+ahead[1]+ahead[2])
}

// fault is that of a number, if it has one.
func fault(text string, least, most int) api.Errno {
	if !exact.MatchString(text) {
		return api.ErrText
	}
	n, _ := new(big.Int).SetString(text, 10)
	if n.Cmp(big.NewInt(int64(least))) < 0 || n.Cmp(big.NewInt(int64(most))) > 0 {
		return api.ErrRange
	}
	return api.OK
}

// plainParse is Parse, for texts of at most MaxBytes bytes.
func plainParse(s string) (api.Poly, int, api.Errno) {
	l := plainWords(s)
	if len(l) == 0 {
		return api.Poly{}, len(s), api.ErrText
	}
	if l[0].text != "poly" {
		return api.Poly{}, l[0].at, api.ErrText
	}
	var numbers []int
	for _, w := range l[1:] {
		least, most, ok := bounds(numbers)
		if !ok {
			return api.Poly{}, w.at, api.ErrText
		}
		if e := fault(w.text, least, most); e != api.OK {
			return api.Poly{}, w.at, e
		}
		n, _ := strconv.Atoi(w.text)
		numbers = append(numbers, n)
	}
	if _, _, more := bounds(numbers); more {
		return api.Poly{}, len(s), api.ErrText
	}
	return polyOf(numbers), 0, api.OK
}

func polyOf(numbers []int) api.Poly {
	var p api.Poly
	pairs := numbers[3:]
	for i := 0; i < len(pairs); i += 2 {
		switch {
		case len(p.P) < numbers[0]:
			p.P = append(p.P, at(pairs[i], pairs[i+1]))
		case len(p.L) < numbers[1]:
			p.L = append(p.L, seg(pairs[i], pairs[i+1]))
		default:
			p.I = append(p.I, seg(pairs[i], pairs[i+1]))
		}
	}
	return p
}

// plainLines are the words that the chapter says p has, line by line.
func plainLines(p api.Poly) [][]string {
	lines := [][]string{{"poly", strconv.Itoa(len(p.P)), strconv.Itoa(len(p.L)), strconv.Itoa(len(p.I))}}
	for _, q := range p.P {
		lines = append(lines, []string{strconv.Itoa(q.X), strconv.Itoa(q.Y)})
	}
	for _, s := range append(slices.Clone(p.L), p.I...) {
		lines = append(lines, []string{strconv.Itoa(s.A), strconv.Itoa(s.B)})
	}
	return lines
}

func plainPrint(p api.Poly) string {
	s := ""
	for _, line := range plainLines(p) {
		s += strings.Join(line, " ") + "\n"
	}
	return s
}

func plainValid(p api.Poly) bool {
	for _, q := range p.P {
		for _, n := range []int{q.X, q.Y} {
			if n < -1<<20 || n > 1<<20 {
				return false
			}
		}
	}
	for _, s := range append(slices.Clone(p.L), p.I...) {
		for _, n := range []int{s.A, s.B} {
			if n < 0 || n > len(p.P)-1 {
				return false
			}
		}
	}
	return len(p.P) < 201 && len(p.L) < 401 && len(p.I) < 401
}

// checkParse holds Parse against what is wanted.
func checkParse(t *testing.T, s string, p api.Poly, n int, e api.Errno) {
	t.Helper()
	b := []byte(s)
	gotP, gotN, gotE := input.Parse(b)
	if gotN != n || gotE != e || !same(gotP, p) {
		t.Fatalf("Parse(%s) = %v, %d, %d, want %v, %d, %d", shown(s), gotP, gotN, gotE, p, n, e)
	}
	if string(b) != s {
		t.Fatalf("Parse(%s) changed its bytes", shown(s))
	}
}

// checkRefused wants that error, there, and the zero Poly with it.
func checkRefused(t *testing.T, s string, n int, e api.Errno) {
	t.Helper()
	checkParse(t, s, api.Poly{}, n, e)
}

// checkPlain holds Parse against the other way.
func checkPlain(t *testing.T, s string) {
	t.Helper()
	p, n, e := plainParse(s)
	checkParse(t, s, p, n, e)
}

// checkValid wants p to be printed in exactly its lines, and read back.
func checkValid(t *testing.T, p api.Poly) {
	t.Helper()
	before := copied(p)
	if e := input.Check(p); e != api.OK {
		t.Fatalf("Check(%v) = %d", p, e)
	}
	s, e := input.Print(p)
	if want := plainPrint(p); e != api.OK || s != want {
		t.Fatalf("Print(%v) = %s, %d, want %s", p, shown(s), e, shown(want))
	}
	if !same(p, before) {
		t.Fatalf("%v changed to %v", before, p)
	}
	checkParse(t, s, p, 0, api.OK)
}

// checkInvalid wants ErrArg, and no text.
func checkInvalid(t *testing.T, p api.Poly) {
	t.Helper()
	before := copied(p)
	if e := input.Check(p); e != api.ErrArg {
		t.Fatalf("Check(%v) = %d, want ErrArg", p, e)
	}
	if s, e := input.Print(p); e != api.ErrArg || s != "" {
		t.Fatalf("Print(%v) = %s, %d, want ErrArg", p, shown(s), e)
	}
	if !same(p, before) {
		t.Fatalf("%v changed to %v", before, p)
	}
}

// check wants Check and Print to be as the other way tells.
func check(t *testing.T, p api.Poly) {
	t.Helper()
	if plainValid(p) {
		checkValid(t, p)
	} else {
		checkInvalid(t, p)
	}
}

var triangle = api.Poly{P: []api.Point{{}, {X: 4}, {Y: 4}}, L: []api.Seg{{A: 0, B: 1}, {A: 1, B: 2}, {A: 2, B: 0}}}

// The square of the document's sixth example, with its edge inside.
var square = api.Poly{
	P: []api.Point{{X: -10, Y: -20}, {X: 10, Y: -20}, {X: 10, Y: 20}, {X: -10, Y: 20}},
	L: []api.Seg{{A: 0, B: 1}, {A: 1, B: 2}, {A: 2, B: 3}, {A: 3, B: 0}},
	I: []api.Seg{{A: 0, B: 2}},
}

// manyPoints are as many different points.
func manyPoints(count int) []api.Point {
	var l []api.Point
	for i := range count {
		l = append(l, at(i-maxPlace, maxPlace-i*i))
	}
	return l
}

// manySegs are as many segments, between points of that number.
func manySegs(count, points int) []api.Seg {
	var l []api.Seg
	for i := range count {
		l = append(l, seg(i%points, (7*i+1)%points))
	}
	return l
}

func largest() api.Poly {
	return api.Poly{P: manyPoints(maxPoints), L: manySegs(maxSegs, maxPoints), I: manySegs(maxSegs, 177)}
}

func TestExamples(t *testing.T) {
	text := "poly 3 3 0\n0 0\n4 0\n0 4\n0 1\n1 2\n2 0\n"
	checkParse(t, text, triangle, 0, api.OK)
	if s, e := input.Print(triangle); s != text || e != api.OK {
		t.Errorf("%q, %d", s, e)
	}
	checkRefused(t, "poly 3 3 0 0 0 4 x", 17, api.ErrText)
	checkRefused(t, "poly 1 1 0 0 0 0 1", 17, api.ErrRange)
	if s, e := input.Print(square); s != "poly 4 4 1\n-10 -20\n10 -20\n10 20\n-10 20\n0 1\n1 2\n2 3\n3 0\n0 2\n" || e != api.OK {
		t.Errorf("%q, %d", s, e)
	}
	checkValid(t, triangle)
	checkValid(t, square)
}

// First the segments of L, then those of I, each with A ahead of B, and X ahead of Y.
func TestOrderOfWords(t *testing.T) {
	checkParse(t, "poly 5 2 3 10 11 12 13 14 15 16 17 18 19 0 1 2 3 4 0 1 2 3 4", api.Poly{
		P: []api.Point{{X: 10, Y: 11}, {X: 12, Y: 13}, {X: 14, Y: 15}, {X: 16, Y: 17}, {X: 18, Y: 19}},
		L: []api.Seg{{A: 0, B: 1}, {A: 2, B: 3}},
		I: []api.Seg{{A: 4, B: 0}, {A: 1, B: 2}, {A: 3, B: 4}},
	}, 0, api.OK)
	checkParse(t, "poly 2 0 1 -1 -2 3 0 1 0", api.Poly{P: []api.Point{{X: -1, Y: -2}, {X: 3}}, I: []api.Seg{{A: 1}}}, 0, api.OK)
	checkParse(t, "poly 2 1 0 -1 -2 3 0 1 0", api.Poly{P: []api.Point{{X: -1, Y: -2}, {X: 3}}, L: []api.Seg{{A: 1}}}, 0, api.OK)
}

// R6: no elements, whether the slices are nil or empty.
func TestNoElements(t *testing.T) {
	points, segs := []api.Point{}, []api.Seg{}
	for _, p := range []api.Poly{{}, {P: points}, {L: segs}, {I: segs}, {P: points, L: segs, I: segs}} {
		checkValid(t, p)
		if s, e := input.Print(p); s != "poly 0 0 0\n" || e != api.OK {
			t.Errorf("Print(%v) = %q, %d", p, s, e)
		}
	}
	p, n, e := input.Parse([]byte("poly 0 0 0"))
	if !isZero(p) || n != 0 || e != api.OK {
		t.Error(p, n, e)
	}
	// Points without segments, but no segments without points.
	checkValid(t, api.Poly{P: []api.Point{{X: 1}}})
	checkValid(t, api.Poly{P: []api.Point{{X: 1}}, L: segs})
	checkInvalid(t, api.Poly{L: []api.Seg{{}}})
	checkInvalid(t, api.Poly{I: []api.Seg{{}}})
	checkInvalid(t, api.Poly{P: points, L: []api.Seg{{}}, I: segs})
}

func TestCounts(t *testing.T) {
	for _, count := range []int{0, 1, 2, 199, 200} {
		checkValid(t, api.Poly{P: manyPoints(count)})
	}
	for _, count := range []int{1, 2, 399, 400} {
		l := manySegs(count, 3)
		checkValid(t, api.Poly{P: manyPoints(3), L: l})
		checkValid(t, api.Poly{P: manyPoints(3), I: l})
		checkValid(t, api.Poly{P: manyPoints(3), L: l, I: l})
	}
	checkValid(t, largest())
	for _, more := range []int{1, 2, 1000} {
		checkInvalid(t, api.Poly{P: manyPoints(maxPoints + more)})
		l := manySegs(maxSegs+more, 3)
		checkInvalid(t, api.Poly{P: manyPoints(3), L: l})
		checkInvalid(t, api.Poly{P: manyPoints(3), I: l})
		checkInvalid(t, api.Poly{P: manyPoints(3), L: l, I: l})
	}
	// Not the number of all segments is limited.
	checkValid(t, api.Poly{P: manyPoints(3), L: manySegs(400, 3), I: manySegs(1, 3)})
}

// coordinates calls each with the n put into each place of a Poly that is else valid.
func coordinates(n int, each func(p api.Poly)) {
	for i := range square.P {
		p := copied(square)
		p.P[i].X = n
		each(p)
		p = copied(square)
		p.P[i].Y = n
		each(p)
	}
}

// ends calls each with n put into each end of a Poly that is else valid.
func ends(n int, each func(p api.Poly)) {
	for i := range square.L {
		p := copied(square)
		p.L[i].A = n
		each(p)
		p = copied(square)
		p.L[i].B = n
		each(p)
	}
	for _, side := range []int{0, 1} {
		p := copied(square)
		if side == 0 {
			p.I[0].A = n
		} else {
			p.I[0].B = n
		}
		each(p)
	}
}

func TestCoordinates(t *testing.T) {
	for _, n := range []int{-1048576, -1048575, -1, 0, 1, 1048575, 1048576} {
		coordinates(n, func(p api.Poly) { checkValid(t, p) })
	}
	for _, n := range []int{-1048577, 1048577, -1 << 21, 1 << 21, 1 << 32, 1<<32 + 1, -1<<32 + 1, math.MaxInt, math.MaxInt - 1, math.MinInt, math.MinInt + 1} {
		coordinates(n, func(p api.Poly) { checkInvalid(t, p) })
		checkInvalid(t, api.Poly{P: []api.Point{at(n, 0)}})
		checkInvalid(t, api.Poly{P: []api.Point{at(0, n)}})
		checkInvalid(t, api.Poly{P: []api.Point{at(n, n)}})
	}
}

func TestEnds(t *testing.T) {
	last := len(square.P) - 1
	for _, n := range []int{0, 1, last - 1, last} {
		ends(n, func(p api.Poly) { checkValid(t, p) })
	}
	for _, n := range []int{-1, -2, -last, -last - 1, last + 1, last + 2, 200, math.MaxInt, math.MinInt, 1<<32 + 1, math.MinInt + 1} {
		ends(n, func(p api.Poly) { checkInvalid(t, p) })
	}
	// A segment from a point to itself is a flaw, but may be described, as may the same point or segment twice.
	checkValid(t, api.Poly{P: []api.Point{{}}, L: []api.Seg{{}}, I: []api.Seg{{}, {}}})
	checkValid(t, api.Poly{P: []api.Point{{X: 5}, {X: 5}}, L: []api.Seg{{B: 1}, {B: 1}, {A: 1}}, I: []api.Seg{{B: 1}}})
}

// The faults of several fields together are no other error.
func TestSeveralFaults(t *testing.T) {
	checkInvalid(t, api.Poly{P: []api.Point{{X: math.MinInt, Y: math.MaxInt}}, L: []api.Seg{{A: -1, B: 7}}, I: manySegs(401, 900)})
	checkInvalid(t, api.Poly{P: make([]api.Point, 201), L: make([]api.Seg, 401), I: make([]api.Seg, 401)})
	// The ends fit, but not all the points do.
	checkInvalid(t, api.Poly{P: make([]api.Point, 201), L: []api.Seg{{A: 200, B: 0}}})
	checkInvalid(t, api.Poly{P: make([]api.Point, 201), L: []api.Seg{{A: 1, B: 0}}})
}

// Many small ones: all polygons with up to two points and up to one segment of each kind, at the borders.
func TestAllSmall(t *testing.T) {
	var points [][]api.Point
	for _, x := range []int{-maxPlace - 1, -maxPlace, 0, maxPlace, maxPlace + 1} {
		for _, y := range []int{-maxPlace - 1, -maxPlace, 7, maxPlace, maxPlace + 1} {
			points = append(points, []api.Point{at(x, y)}, []api.Point{at(1, 2), at(x, y)})
		}
	}
	segs := [][]api.Seg{nil}
	for a := -1; a <= 2; a++ {
		for b := -1; b <= 2; b++ {
			segs = append(segs, []api.Seg{seg(a, b)})
		}
	}
	for _, p := range append(points, nil) {
		for _, l := range segs {
			for _, i := range segs {
				check(t, api.Poly{P: p, L: l, I: i})
			}
		}
	}
}

func drawnPoly(r *rand.Rand) api.Poly {
	p := api.Poly{P: make([]api.Point, r.IntN(12))}
	size := 1 << r.IntN(21)
	for i := range p.P {
		p.P[i] = at(r.IntN(2*size+1)-size, r.IntN(2*size+1)-size)
	}
	if n := len(p.P); n > 0 {
		for range r.IntN(9) {
			p.L = append(p.L, seg(r.IntN(n), r.IntN(n)))
		}
		for range r.IntN(5) {
			p.I = append(p.I, seg(r.IntN(n), r.IntN(n)))
		}
	}
	return p
}

// P3: what was written is read back.
func TestReadBack(t *testing.T) {
	r := rand.New(rand.NewPCG(51, 1))
	for range 3000 {
		checkValid(t, drawnPoly(r))
	}
}

// What is parsed is valid, and printing and parsing it again returns it.
func TestParsedIsValid(t *testing.T) {
	for _, s := range []string{
		"poly 0 0 0", "\tpoly\r\n0 #1\n 0 0 # end", "poly 2 1 1\n1048576 -1048576 -7 0 1 0 0 0",
		"# a triangle\npoly 3 3 1\n0 0 4 0 0 4\n0 1 1 2 2 0\n0 2",
	} {
		p, n, e := input.Parse([]byte(s))
		if n != 0 || e != api.OK {
			t.Fatalf("%q: %d, %d", s, n, e)
		}
		checkValid(t, p)
		checkPlain(t, s)
	}
}

func TestFirstWord(t *testing.T) {
	for _, first := range []string{"polygon", "Poly", "POLY", "pol", "poly#", "poly0", "p", "4", "-1", "poly,", "\xffpoly", "\x00", "ply", "poly\x00", "\vpoly", "\u00a0poly"} {
		checkRefused(t, first, 0, api.ErrText)
		checkRefused(t, first+" 0 0 0", 0, api.ErrText)
		checkRefused(t, " #\n"+first+" 0 0 0", 3, api.ErrText)
		// It is told ahead of all that is wrong behind it.
		checkRefused(t, first+" 201 x 0", 0, api.ErrText)
		checkRefused(t, "  "+first+" poly 0 0 0", 2, api.ErrText)
	}
}

func TestNoWords(t *testing.T) {
	checkRefused(t, "", 0, api.ErrText)
	if p, n, e := input.Parse(nil); !isZero(p) || n != 0 || e != api.ErrText {
		t.Error(p, n, e)
	}
	for _, s := range []string{" ", "\n", "# poly 0 0 0", " \t\r\n", "#", "#\n#poly 0 0 0\n"} {
		checkRefused(t, s, len(s), api.ErrText)
	}
}

func TestNumbersOfElements(t *testing.T) {
	for _, x := range []struct {
		s string
		n int
		e api.Errno
	}{
		{"poly 201 0 0", 5, api.ErrRange}, {"poly -1 0 0", 5, api.ErrRange}, {"poly -200 0 0", 5, api.ErrRange}, {"poly -201 0 0", 5, api.ErrRange},
		{"poly 0 401 0", 7, api.ErrRange}, {"poly 0 -1 0", 7, api.ErrRange}, {"poly 0 -400 0", 7, api.ErrRange}, {"poly 0 -401 0", 7, api.ErrRange},
		{"poly 0 0 401", 9, api.ErrRange}, {"poly 0 0 -1", 9, api.ErrRange}, {"poly 0 0 -400", 9, api.ErrRange}, {"poly 0 0 -401", 9, api.ErrRange},
		{"poly 18446744073709551616 0 0", 5, api.ErrRange}, {"poly 0 18446744073709551617 0", 7, api.ErrRange}, {"poly 0 0 -18446744073709551615", 9, api.ErrRange},
		{"poly 9223372036854775807 0 0", 5, api.ErrRange}, {"poly 0 9223372036854775807 0", 7, api.ErrRange}, {"poly 0 0 9223372036854775807", 9, api.ErrRange},
		// As many as may be, but then words are missing.
		{"poly 200 0 0", 12, api.ErrText}, {"poly 0 400 0", 12, api.ErrText}, {"poly 0 0 400", 12, api.ErrText}, {"poly 200 400 400", 16, api.ErrText},
		// Between points that there are not, no number is right.
		{"poly 0 400 0 0", 13, api.ErrRange}, {"poly 0 0 400 0", 13, api.ErrRange}, {"poly 0 1 0 -1 0", 11, api.ErrRange}, {"poly 0 1 0 x 0", 11, api.ErrText},
	} {
		checkRefused(t, x.s, x.n, x.e)
	}
	// They are read ahead of what they count: the third one is told though the points are missing.
	checkRefused(t, "poly 3 3 401", 9, api.ErrRange)
	checkRefused(t, "poly 3 3", 8, api.ErrText)
}

// description is a text of the words, and where each of them begins.
func description(words []string, gap string) (string, []int) {
	s := ""
	var at []int
	for _, w := range words {
		at = append(at, len(s))
		s += w + gap
	}
	return strings.TrimSuffix(s, gap), at
}

// all are polygons whose words are spoilt below: with and without each kind of elements.
func all() []api.Poly {
	return []api.Poly{
		triangle, square, {}, {P: manyPoints(2)},
		{P: manyPoints(3), I: manySegs(2, 3)}, {P: manyPoints(3), L: manySegs(2, 3)}, {P: manyPoints(1), L: make([]api.Seg, 1), I: make([]api.Seg, 2)},
	}
}

func wordsOf(p api.Poly) []string {
	return slices.Concat(plainLines(p)...)
}

// At each place among the words, one that is not a number.
func TestWrongWords(t *testing.T) {
	for _, p := range all() {
		words := wordsOf(p)
		for i := range words {
			for _, wrong := range []string{"x", "-", "-0", "00", "01", "+1", "0x1", "1.", "1e2", "0#", "\xff", "\u0661", "--1", "1_0", "poly0", "99999999999999999999x", "-01"} {
				spoilt := slices.Clone(words)
				spoilt[i] = wrong
				s, at := description(spoilt, " ")
				checkRefused(t, s, at[i], api.ErrText)
				checkPlain(t, s)
			}
			if i > 0 {
				spoilt := slices.Clone(words)
				spoilt[i] = "poly"
				s, at := description(spoilt, "\n")
				checkRefused(t, s, at[i], api.ErrText)
			}
		}
	}
}

// At each place among the words, numbers that are beyond its range, or beyond any.
func TestNumbersBeyond(t *testing.T) {
	for _, p := range all() {
		words := wordsOf(p)
		for i := range words[1:] {
			var ahead []int
			for _, w := range words[1 : 1+i] {
				n, _ := strconv.Atoi(w)
				ahead = append(ahead, n)
			}
			least, most, _ := bounds(ahead)
			for _, beyond := range []string{strconv.Itoa(least - 1), strconv.Itoa(most + 1), "-1048577", "1048577", "-9223372036854775808", "9223372036854775807", "9223372036854775808", "4294967296", "18446744073709551616", "-18446744073709551617", strings.Repeat("9", 99)} {
				spoilt := slices.Clone(words)
				spoilt[1+i] = beyond
				s, at := description(spoilt, " ")
				checkRefused(t, s, at[1+i], api.ErrRange)
			}
			for _, within := range []int{least, most} {
				moved := slices.Clone(words)
				moved[1+i] = strconv.Itoa(within)
				s, _ := description(moved, " ")
				checkPlain(t, s)
			}
		}
	}
}

// At each place one word is missing, or there is one more.
func TestMissingAndMoreWords(t *testing.T) {
	for _, p := range all() {
		words := wordsOf(p)
		for i := range words {
			s, _ := description(slices.Delete(slices.Clone(words), i, i+1), " ")
			checkPlain(t, s)
			if _, _, e := input.Parse([]byte(s)); e == api.OK {
				t.Errorf("%s is right", shown(s))
			}
			for _, more := range []string{"0", "1", "x", "poly"} {
				s, _ := description(slices.Insert(slices.Clone(words), i, more), " ")
				checkPlain(t, s)
			}
		}
		for _, more := range []string{"0", "-1", "7", "x", "poly", "a#", "201", "18446744073709551616"} {
			s, at := description(append(slices.Clone(words), more), " ")
			checkRefused(t, s, at[len(words)], api.ErrText)
			checkRefused(t, s+" "+more, at[len(words)], api.ErrText)
			checkRefused(t, s+" # more\n", at[len(words)], api.ErrText)
		}
	}
	checkRefused(t, "poly 0 0 0 7", 11, api.ErrText)
}

// A text that is cut short ahead of a word, with the blanks ahead of that one or without: the place is its end.
func TestCutShort(t *testing.T) {
	for _, p := range append(all(), largest()) {
		words := wordsOf(p)
		for _, gap := range []string{" ", "\n", " # poly 0 0 0\n", "\r\n\t"} {
			s, at := description(words, gap)
			for i := range at {
				checkRefused(t, s[:at[i]], at[i], api.ErrText)
				if i > 0 {
					checkRefused(t, s[:at[i]-len(gap)], at[i]-len(gap), api.ErrText)
				}
			}
			checkParse(t, s, p, 0, api.OK)
		}
	}
	// In a comment at the end the missing words are missing nevertheless.
	checkRefused(t, "poly 0 0 # 0", 12, api.ErrText)
	checkRefused(t, "poly 0 0 # 0\n", 13, api.ErrText)
}

// Cut anywhere, also within a word.
func TestCutAnywhere(t *testing.T) {
	for _, p := range all() {
		s := plainPrint(p)
		for i := range len(s) + 1 {
			checkPlain(t, s[:i])
		}
	}
}

func TestTheFirstWrongWordCounts(t *testing.T) {
	for _, x := range []struct {
		s string
		n int
		e api.Errno
	}{
		{"poly 201 x 0", 5, api.ErrRange}, {"poly x 401 0", 5, api.ErrText}, {"poly 0 401 x", 7, api.ErrRange}, {"poly 0 x -1", 7, api.ErrText},
		{"poly 1 0 0 1048577 x", 11, api.ErrRange}, {"poly 1 0 0 x 1048577", 11, api.ErrText}, {"poly 1 0 0 0 1048577 x", 13, api.ErrRange},
		{"poly 1 1 0 0 0 1 x", 15, api.ErrRange}, {"poly 1 1 0 0 0 x 1", 15, api.ErrText}, {"poly 1 1 1 0 0 0 -1 x 0", 17, api.ErrRange}, {"poly 1 1 1 0 0 0 - 1 0", 17, api.ErrText},
		{"poly 1 0 1 0 0 0 1 x", 17, api.ErrRange}, {"poly 1 0 1 0 0 0 x 1", 17, api.ErrText},
		// Behind one beyond its range words are missing, or there are more of them.
		{"poly 201", 5, api.ErrRange}, {"poly 1 0 0 -1048577", 11, api.ErrRange}, {"poly 0 0 401 7", 9, api.ErrRange}, {"poly 1 1 0 0 0 1", 15, api.ErrRange},
		// Two of the same kind.
		{"poly x y z", 5, api.ErrText}, {"poly -1 -1 -1", 5, api.ErrRange},
	} {
		checkRefused(t, x.s, x.n, x.e)
		checkPlain(t, x.s)
	}
}

// Two spoilt words at all places.
func TestTwoWrongWords(t *testing.T) {
	for _, p := range all()[1:] {
		words := wordsOf(p)
		for i := range words {
			for k := range words {
				for _, wrong := range [][2]string{{"x", "-2000000"}, {"9999999", "x"}, {"2", "x"}, {"-1", "3"}} {
					spoilt := slices.Clone(words)
					spoilt[i], spoilt[k] = wrong[0], wrong[1]
					s, _ := description(spoilt, "\t")
					checkPlain(t, s)
				}
			}
		}
	}
}

func TestBlanksAndComments(t *testing.T) {
	gaps := []string{" ", "\n", "\t", "\r", "\r\n", "  \n\n", " # a comment\n", "\n#\n#x 1 2\n\t", "\t#a\r#\t\n", " #poly 0 0 0\n"}
	r := rand.New(rand.NewPCG(51, 2))
	for range 1000 {
		p := drawnPoly(r)
		if r.IntN(2) == 0 {
			p = square
		}
		s := []string{"", " ", "\n", "# ahead\n", "\r\n#\n\t"}[r.IntN(5)]
		words := wordsOf(p)
		for _, w := range words {
			s += w + gaps[r.IntN(len(gaps))]
		}
		s += []string{"", " ", "\n\n", "# behind", "#\n", "# x y\n \t"}[r.IntN(6)]
		checkParse(t, s, p, 0, api.OK)
	}
	// A # within a word is part of it.
	checkRefused(t, "poly 0 0 0# 1", 9, api.ErrText)
	checkRefused(t, "poly# 0 0 0", 0, api.ErrText)
}

// Errors are told where their words stand, with comments and blanks ahead.
func TestOffsetsBehindComments(t *testing.T) {
	checkRefused(t, "# x\n\n  poly 1 0 # 7\n 0 0\r\n#\n\tx 1", 29, api.ErrText)
	checkRefused(t, "\u00e4", 0, api.ErrText)
	checkRefused(t, "# \u00e4\u00e4\npoly\t-5", 12, api.ErrRange)
}

func TestTooLong(t *testing.T) {
	for _, length := range []int{api.MaxBytes + 1, api.MaxBytes + 2, 2 * api.MaxBytes} {
		for _, s := range []string{"poly 0 0 0\n", "x ", "", "poly 201 0 0\n", "poly 1 0 0 x"} {
			checkRefused(t, s+strings.Repeat(" ", length-len(s)), 0, api.ErrLong)
			checkRefused(t, s+strings.Repeat("#", length-len(s)), 0, api.ErrLong)
			checkRefused(t, strings.Repeat("1 ", (length-len(s))/2+1)+s, 0, api.ErrLong)
		}
	}
}

func TestAsLongAsMayBe(t *testing.T) {
	const most = api.MaxBytes
	fill := func(s, with string) string {
		return (s + strings.Repeat(with, most))[:most]
	}
	for _, p := range append(all(), largest()) {
		s := plainPrint(p)
		checkParse(t, fill(s, " "), p, 0, api.OK)
		checkParse(t, fill(s, "#"), p, 0, api.OK)
		checkParse(t, strings.Repeat("\n", most-len(s))+s, p, 0, api.OK)
		checkRefused(t, fill(s, "x"), len(s), api.ErrText)
		words := wordsOf(p)
		short, _ := description(words[:len(words)-1], " ")
		checkRefused(t, fill(short, "\n"), most, api.ErrText)
		checkRefused(t, fill(short, " #"), most, api.ErrText)
	}
	// Many words, one behind the other; and one long word.
	checkRefused(t, strings.Repeat("\t", most-1)+"7", most-1, api.ErrText)
	checkRefused(t, fill("", "poly "), 5, api.ErrText)
	checkRefused(t, fill("poly 0 0 0 ", "0 "), 11, api.ErrText)
	checkRefused(t, fill("", "poly"), 0, api.ErrText)
	checkRefused(t, fill("poly ", "9"), 5, api.ErrRange)
	checkRefused(t, fill("poly ", "0"), 5, api.ErrText)
	checkRefused(t, fill("poly -", "9"), 5, api.ErrRange)
	checkRefused(t, fill("poly 0 0 ", "9"), 9, api.ErrRange)
}

// withSpare are copies with spare capacity, which holds other elements.
func withSpare(p api.Poly) api.Poly {
	q := api.Poly{P: append(slices.Clone(p.P), at(7, 7), at(8, 8)), L: append(slices.Clone(p.L), seg(70, 70), seg(80, 80)), I: append(slices.Clone(p.I), seg(700, 700), seg(800, 800))}
	return api.Poly{P: q.P[:len(p.P)], L: q.L[:len(p.L)], I: q.I[:len(p.I)]}
}

// R2: arguments stay as they are, up to their capacity, and what lies beyond their ends counts nothing.
func TestArgumentsStay(t *testing.T) {
	for _, p := range append(all(), largest()) {
		q := withSpare(p)
		checkValid(t, q)
		q = api.Poly{P: q.P[:len(p.P)+2], L: q.L[:len(p.L)+2], I: q.I[:len(p.I)+2]}
		if !same(q, api.Poly{P: append(slices.Clone(p.P), at(7, 7), at(8, 8)), L: append(slices.Clone(p.L), seg(70, 70), seg(80, 80)), I: append(slices.Clone(p.I), seg(700, 700), seg(800, 800))}) {
			t.Errorf("changed to %v", q)
		}
	}
	// Spare points do not make an end right.
	p := withSpare(triangle)
	p.L[1].B = 3
	checkInvalid(t, p)
	p = withSpare(square)
	p.I[0].A = 4
	checkInvalid(t, p)
	text := []byte("poly 1 1 0\n5 6\n0 0\n 7 x")
	if q, n, e := input.Parse(text[:20]); !same(q, api.Poly{P: []api.Point{{X: 5, Y: 6}}, L: []api.Seg{{}}}) || n != 0 || e != api.OK {
		t.Error(q, n, e)
	}
	if string(text) != "poly 1 1 0\n5 6\n0 0\n 7 x" {
		t.Errorf("changed to %q", text)
	}
}

// spoil changes all of p, its spare capacity too.
func spoil(p api.Poly) {
	for _, l := range [][]api.Seg{p.L[:cap(p.L)], p.I[:cap(p.I)]} {
		for i := range l {
			l[i] = seg(-5, -5)
		}
	}
	points := p.P[:cap(p.P)]
	for i := range points {
		points[i] = at(-5, -5)
	}
}

// R2: each Poly is new memory, and nothing of the bytes is kept.
func TestNewMemory(t *testing.T) {
	for _, p := range append(all(), largest()) {
		b := []byte(plainPrint(p))
		one, _, _ := input.Parse(b)
		two, _, _ := input.Parse(b)
		text, _ := input.Print(two)
		for i := range b {
			b[i] = '9'
		}
		spoil(one)
		if !same(two, p) || text != plainPrint(p) {
			t.Errorf("%v changed to %v", p, two)
		}
		spoil(two)
		if text != plainPrint(p) {
			t.Errorf("the text of %v changed to %s", p, shown(text))
		}
		checkParse(t, text, p, 0, api.OK)
	}
}

// R2: the three slices of one Poly share no memory either, up to their capacity.
func TestSlicesOfOnePoly(t *testing.T) {
	for loops := range 10 {
		for inner := range 10 {
			p := api.Poly{P: manyPoints(4), L: manySegs(loops, 3), I: manySegs(inner, 4)}
			text := []byte(plainPrint(p))
			q, _, _ := input.Parse(text)
			spoil(api.Poly{P: q.P, L: append(q.L, seg(-5, -5))})
			spoil(api.Poly{L: q.L})
			if !slices.Equal(q.I, p.I) {
				t.Errorf("%v changed to %v with L", p.I, q.I)
			}
			q, _, _ = input.Parse(text)
			spoil(api.Poly{P: q.P, I: append(q.I, seg(-5, -5))})
			spoil(api.Poly{I: q.I})
			if !slices.Equal(q.L, p.L) {
				t.Errorf("%v changed to %v with I", p.L, q.L)
			}
		}
	}
}

// R4: what was asked ahead changes no answer.
func TestSameAgain(t *testing.T) {
	texts := []string{"poly 1 0 0 5 6", "poly 1 0 0 5", "", "poly 201", "poly 0 0 0 x", plainPrint(square), plainPrint(largest())}
	for _, s := range texts {
		for _, other := range texts {
			checkPlain(t, s)
			checkPlain(t, other)
			checkPlain(t, s)
		}
	}
	for range 2 {
		checkValid(t, square)
		checkInvalid(t, api.Poly{L: []api.Seg{{}}})
	}
}

// P1: texts of words that belong there and words that do not, in any order.
func TestDrawnTexts(t *testing.T) {
	words := []string{"poly", "0", "1", "2", "3", "-1", "200", "201", "400", "401", "1048576", "-1048576", "1048577", "x", "#", "\n", "# 1\n", "01", "-", "4#"}
	r := rand.New(rand.NewPCG(51, 3))
	for range 20000 {
		s := ""
		if r.IntN(4) > 0 {
			s = "poly " + strconv.Itoa(r.IntN(3)) + " " + strconv.Itoa(r.IntN(3)) + " " + strconv.Itoa(r.IntN(2)) + " "
		}
		for range r.IntN(16) {
			s += words[r.IntN(min(len(words), 3+r.IntN(len(words))))] + " "
		}
		checkPlain(t, s)
	}
}

// P1: any bytes.
func TestDrawnBytes(t *testing.T) {
	r := rand.New(rand.NewPCG(51, 4))
	for range 5000 {
		b := make([]byte, r.IntN(60))
		for i := range b {
			b[i] = byte(r.Uint32())
		}
		checkPlain(t, string(b))
		// One byte of a description is another one.
		b = []byte(plainPrint(square))
		b[r.IntN(len(b))] = byte(r.Uint32())
		checkPlain(t, string(b))
	}
}

// P1: any Poly.
func TestDrawnPolys(t *testing.T) {
	r := rand.New(rand.NewPCG(51, 5))
	numbers := []int{math.MinInt, -1 << 32, -1<<20 - 1, -1 << 20, -1, 0, 1, 2, 3, 1 << 20, 1<<20 + 1, math.MaxInt}
	drawn := func() int { return numbers[r.IntN(len(numbers))] }
	for range 5000 {
		p := drawnPoly(r)
		if len(p.P) > 0 && r.IntN(2) == 0 {
			p.P[r.IntN(len(p.P))] = at(drawn(), drawn())
		}
		if len(p.L) > 0 && r.IntN(3) == 0 {
			p.L[r.IntN(len(p.L))] = seg(drawn(), drawn())
		}
		if len(p.I) > 0 && r.IntN(3) == 0 {
			p.I[r.IntN(len(p.I))] = seg(drawn(), drawn())
		}
		check(t, p)
	}
	check(t, api.Poly{P: make([]api.Point, 1<<20), L: make([]api.Seg, 1<<20), I: make([]api.Seg, 1<<20)})
}

func FuzzParse(f *testing.F) {
	for _, s := range []string{"", "poly 0 0 0", "# a triangle\npoly 3 3 1\n0 0 4 0 0 4\n0 1 1 2 2 0\n0 2", "poly 201 0 0", "poly 1 1 0 0 0 0 1", "poly 1 0 0 -1048577 -0"} {
		f.Add([]byte(s))
	}
	f.Fuzz(func(t *testing.T, b []byte) {
		if len(b) > api.MaxBytes {
			checkRefused(t, string(b), 0, api.ErrLong)
			return
		}
		checkPlain(t, string(b))
		if p, _, e := input.Parse(bytes.Clone(b)); e == api.OK {
			checkValid(t, p)
		}
	})
}
