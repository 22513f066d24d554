package wide_test

import (
	"math"
	"math/big"
	"math/rand/v2"
	"strconv"
	"strings"
	"testing"

	"parquet/api"
	"parquet/wide"
)

// The calls that the chapter lists, with their exact signatures: a change of one does not compile.
var (
	_ func(int) api.Wide                                       = wide.Of
	_ func(api.Wide) (int, api.Errno)                          = wide.Int
	_ func(api.Wide) api.Wide                                  = wide.Neg
	_ func(api.Wide) int                                       = wide.Sign
	_ func(api.Wide, api.Wide) int                             = wide.Cmp
	_ func(...api.Wide) (api.Wide, api.Errno)                  = wide.Add
	_ func(api.Wide, api.Wide) (api.Wide, api.Errno)           = wide.Sub
	_ func(...api.Wide) (api.Wide, api.Errno)                  = wide.Mul
	_ func(api.Wide, api.Wide) (api.Wide, api.Wide, api.Errno) = wide.DivMod
	_ func(api.Wide) string                                    = wide.Text
	_ func(string) (api.Wide, api.Errno)                       = wide.Parse
)

const (
	full    = math.MaxUint64
	topText = "115792089237316195423570985008687907853269984665640564039457584007913129639935" // 2^256 - 1
)

var (
	top       = api.Wide{L: [4]uint64{full, full, full, full}}
	bottom    = api.Wide{Minus: true, L: top.L}
	minusZero = api.Wide{Minus: true}
	half      = api.Wide{L: [4]uint64{0, 0, 0, 1 << 63}} // 2^255
	root      = api.Wide{L: [4]uint64{0, 0, 1}}          // 2^128
)

// edges are numbers at whose borders limbs, carries and signs change, each with both signs.
func edges() []api.Wide {
	magnitudes := [][4]uint64{
		{}, {1}, {2}, {3}, {7}, {10}, {1<<63 - 1}, {1 << 63}, {1<<63 + 1}, {full - 1}, {full},
		{0, 1}, {1, 1}, {full, 1}, {full, full}, {0, full}, {0, 0, 1}, {1, 0, 1}, {full, full, full},
		{0, 0, full}, {0, 0, 0, 1}, {1, 0, 0, 1}, {full, full, full, 1<<63 - 1}, {0, 0, 0, 1 << 63},
		{1, 0, 0, 1 << 63}, {0, 0, 0, full}, {full - 1, full, full, full}, {full, full, full, full},
		{0, full, 0, full}, {full, 0, full, 0}, {1 << 63, 1 << 63, 1 << 63, 1 << 63},
	}
	var l []api.Wide
	for _, m := range magnitudes {
		l = append(l, api.Wide{L: m}, api.Wide{Minus: true, L: m})
	}
	return l
}

// drawn is a number of random length, the same ones in each run.
func drawn(r *rand.Rand) api.Wide {
	var w api.Wide
	for i := range r.IntN(5) {
		switch r.IntN(4) {
		case 0:
			w.L[i] = full
		case 1:
			w.L[i] = r.Uint64() >> r.IntN(64)
		case 2:
			w.L[i] = r.Uint64()
		}
	}
	w.Minus = r.IntN(2) == 0
	return w
}

// couples are all pairs of edges, and drawn ones.
func couples(each func(a, b api.Wide)) {
	l := edges()
	for _, a := range l {
		for _, b := range l {
			each(a, b)
		}
	}
	r := rand.New(rand.NewPCG(1, 2))
	for range 20000 {
		each(drawn(r), drawn(r))
	}
}

func toBig(w api.Wide) *big.Int {
	n := new(big.Int)
	for i := 3; i >= 0; i-- {
		n.Lsh(n, 64).Or(n, new(big.Int).SetUint64(w.L[i]))
	}
	if w.Minus {
		n.Neg(n)
	}
	return n
}

// check holds a result against the exact number: it is that one, without a Minus at 0, or ErrRange if there is no room for it.
func check(t *testing.T, what string, got api.Wide, e api.Errno, want *big.Int) {
	t.Helper()
	if want.BitLen() > 256 {
		if e != api.ErrRange || got != (api.Wide{}) {
			t.Fatalf("%s: got %v, %d, want ErrRange for %v", what, got, e, want)
		}
		return
	}
	if e != api.OK || toBig(got).Cmp(want) != 0 || got == minusZero {
		t.Fatalf("%s: got %v, %d, want %v", what, got, e, want)
	}
}

func parsed(t *testing.T, s string) api.Wide {
	t.Helper()
	w, e := wide.Parse(s)
	if e != api.OK {
		t.Fatalf("Parse(%q): %d", s, e)
	}
	return w
}

// same tells whether a call answered just this, beside an error nothing but zero values.
func same(t *testing.T, what string, got api.Wide, e api.Errno, want api.Wide, wantE api.Errno) {
	t.Helper()
	if got != want || e != wantE {
		t.Errorf("%s: got %v, %d, want %v, %d", what, got, e, want, wantE)
	}
}

func TestExamples(t *testing.T) {
	product, e := wide.Mul(wide.Of(1<<62), wide.Of(4))
	same(t, "2^62 * 4", product, e, api.Wide{L: [4]uint64{0, 1, 0, 0}}, api.OK)
	if s := wide.Text(product); s != "18446744073709551616" {
		t.Errorf("2^64 is written %s", s)
	}
	for _, x := range [][4]int{{-7, 2, -4, 1}, {-7, -2, 4, 1}, {7, 2, 3, 1}, {7, -2, -3, 1}, {6, -3, -2, 0}, {-6, 3, -2, 0}, {0, -5, 0, 0}, {-1, 9, -1, 8}, {1, -9, 0, 1}} {
		q, r, e := wide.DivMod(wide.Of(x[0]), wide.Of(x[1]))
		same(t, "quotient", q, e, wide.Of(x[2]), api.OK)
		same(t, "remainder", r, e, wide.Of(x[3]), api.OK)
	}
}

func TestOfAndInt(t *testing.T) {
	for _, n := range []int{0, 1, -1, 42, -42, math.MaxInt - 1, math.MaxInt, math.MinInt + 1, math.MinInt} {
		w := wide.Of(n)
		check(t, "Of", w, api.OK, big.NewInt(int64(n)))
		if m, e := wide.Int(w); m != n || e != api.OK {
			t.Errorf("Int(Of(%d)): %d, %d", n, m, e)
		}
	}
	for _, a := range append(edges(), minusZero) {
		n, e := wide.Int(a)
		if b := toBig(a); b.IsInt64() {
			if e != api.OK || int64(n) != b.Int64() {
				t.Errorf("Int(%v): %d, %d", b, n, e)
			}
		} else if e != api.ErrRange || n != 0 {
			t.Errorf("Int(%v): %d, %d, want ErrRange", b, n, e)
		}
	}
}

func TestIntJustBeyond(t *testing.T) {
	for s, want := range map[string]api.Errno{
		"9223372036854775807": api.OK, "9223372036854775808": api.ErrRange, "-9223372036854775808": api.OK,
		"-9223372036854775809": api.ErrRange, "18446744073709551615": api.ErrRange, "18446744073709551616": api.ErrRange,
		"-18446744073709551616": api.ErrRange, "18446744073709551617": api.ErrRange, topText: api.ErrRange,
	} {
		if n, e := wide.Int(parsed(t, s)); e != want || e != api.OK && n != 0 {
			t.Errorf("Int(%s): %d, %d, want %d", s, n, e, want)
		}
	}
}

func TestNegAndSign(t *testing.T) {
	for _, a := range edges() {
		b := toBig(a)
		check(t, "Neg", wide.Neg(a), api.OK, new(big.Int).Neg(b))
		if s := wide.Sign(a); s != b.Sign() {
			t.Errorf("Sign(%v): %d", a, s)
		}
	}
}

// A Wide with Minus and all L equal to 0 is 0: accepted everywhere, returned nowhere.
func TestZeroWithMinus(t *testing.T) {
	zero, one := api.Wide{}, wide.Of(1)
	if wide.Sign(minusZero) != 0 || wide.Cmp(minusZero, zero) != 0 || wide.Cmp(zero, minusZero) != 0 {
		t.Error("it is not equal to 0")
	}
	if wide.Cmp(minusZero, wide.Of(-1)) != 1 || wide.Cmp(one, minusZero) != 1 || wide.Cmp(minusZero, one) != -1 {
		t.Error("it does not compare as 0")
	}
	if n, e := wide.Int(minusZero); n != 0 || e != api.OK {
		t.Error("Int", n, e)
	}
	if s := wide.Text(minusZero); s != "0" {
		t.Error("Text", s)
	}
	if wide.Neg(minusZero) != zero || wide.Neg(zero) != zero || wide.Of(0) != zero {
		t.Error("Neg, Of")
	}
	for _, l := range [][]api.Wide{{minusZero}, {minusZero, minusZero}, {zero, minusZero}, {minusZero, zero}, {one, wide.Of(-1)}, {wide.Of(-1), one}, {bottom, top}, {one, minusZero, wide.Of(-1)}} {
		sum, e := wide.Add(l...)
		same(t, "Add", sum, e, zero, api.OK)
	}
	for _, l := range [][]api.Wide{{minusZero}, {minusZero, one}, {wide.Of(-1), zero}, {zero, bottom}, {minusZero, minusZero}, {minusZero, bottom, top}} {
		product, e := wide.Mul(l...)
		same(t, "Mul", product, e, zero, api.OK)
	}
	for _, x := range [][2]api.Wide{{minusZero, zero}, {zero, minusZero}, {minusZero, minusZero}, {wide.Of(-3), wide.Of(-3)}, {bottom, bottom}} {
		rest, e := wide.Sub(x[0], x[1])
		same(t, "Sub", rest, e, zero, api.OK)
	}
	q, r, e := wide.DivMod(minusZero, wide.Of(5))
	if q != zero || r != zero || e != api.OK {
		t.Error("DivMod", q, r, e)
	}
	if q, r, e := wide.DivMod(one, minusZero); q != zero || r != zero || e != api.ErrArg {
		t.Error("DivMod by 0", q, r, e)
	}
}

func TestCmp(t *testing.T) {
	couples(func(a, b api.Wide) {
		if c, want := wide.Cmp(a, b), toBig(a).Cmp(toBig(b)); c != want {
			t.Fatalf("Cmp(%v, %v): %d, want %d", a, b, c, want)
		}
	})
}

// P2: every sum, difference and product is exact, or is reported.
func TestSumsAndProductsAreExact(t *testing.T) {
	couples(func(a, b api.Wide) {
		x, y := toBig(a), toBig(b)
		sum, e := wide.Add(a, b)
		check(t, "Add", sum, e, new(big.Int).Add(x, y))
		rest, e := wide.Sub(a, b)
		check(t, "Sub", rest, e, new(big.Int).Sub(x, y))
		product, e := wide.Mul(a, b)
		check(t, "Mul", product, e, new(big.Int).Mul(x, y))
	})
}

// P2: the quotient and the remainder are the only ones with a = q*b + r and r from 0 to below the magnitude of b.
func TestQuotientsAreExact(t *testing.T) {
	couples(func(a, b api.Wide) {
		q, r, e := wide.DivMod(a, b)
		if wide.Sign(b) == 0 {
			if e != api.ErrArg || q != (api.Wide{}) || r != (api.Wide{}) {
				t.Fatalf("DivMod(%v, %v): %v, %v, %d", a, b, q, r, e)
			}
			return
		}
		wantQ, wantR := new(big.Int).DivMod(toBig(a), toBig(b), new(big.Int))
		check(t, "quotient", q, e, wantQ)
		check(t, "remainder", r, e, wantR)
	})
}

func TestJustWithinAndJustBeyond(t *testing.T) {
	one, two := wide.Of(1), wide.Of(2)
	below := api.Wide{L: [4]uint64{full - 1, full, full, full}}
	belowRoot := api.Wide{L: [4]uint64{full, full}}
	none := api.Wide{}
	for _, x := range []struct {
		what string
		call func(...api.Wide) (api.Wide, api.Errno)
		l    []api.Wide
		want api.Wide
		e    api.Errno
	}{
		{"top - 1 + 1", wide.Add, []api.Wide{below, one}, top, api.OK},
		{"top + 1", wide.Add, []api.Wide{top, one}, none, api.ErrRange},
		{"bottom - 1", wide.Add, []api.Wide{bottom, wide.Of(-1)}, none, api.ErrRange},
		{"bottom + 1", wide.Add, []api.Wide{bottom, one}, wide.Neg(below), api.OK},
		{"2^255 + 2^255", wide.Add, []api.Wide{half, half}, none, api.ErrRange},
		{"top alone", wide.Add, []api.Wide{top}, top, api.OK},
		{"bottom alone", wide.Mul, []api.Wide{bottom}, bottom, api.OK},
		{"2^128 * 2^128", wide.Mul, []api.Wide{root, root}, none, api.ErrRange},
		{"2^128 * (2^128 - 1)", wide.Mul, []api.Wide{root, belowRoot}, api.Wide{L: [4]uint64{0, 0, full, full}}, api.OK},
		{"(2^128 + 1) * (2^128 - 1)", wide.Mul, []api.Wide{{L: [4]uint64{1, 0, 1}}, belowRoot}, top, api.OK},
		{"2^255 * 2", wide.Mul, []api.Wide{half, two}, none, api.ErrRange},
		{"2^255 * -1", wide.Mul, []api.Wide{half, wide.Of(-1)}, wide.Neg(half), api.OK},
		{"top * 2", wide.Mul, []api.Wide{top, two}, none, api.ErrRange},
		{"top * bottom", wide.Mul, []api.Wide{top, bottom}, none, api.ErrRange},
	} {
		got, e := x.call(x.l...)
		same(t, x.what, got, e, x.want, x.e)
	}
	rest, e := wide.Sub(bottom, one)
	same(t, "bottom - 1", rest, e, none, api.ErrRange)
	rest, e = wide.Sub(top, wide.Of(-1))
	same(t, "top - -1", rest, e, none, api.ErrRange)
	rest, e = wide.Sub(below, wide.Of(-1))
	same(t, "top - 1 - -1", rest, e, top, api.OK)
	rest, e = wide.Sub(none, top)
	same(t, "0 - top", rest, e, bottom, api.OK)
}

// The greatest quotients have just room: one beyond 2^256 - 1 would need a divisor below 1.
func TestGreatestQuotients(t *testing.T) {
	below := api.Wide{L: [4]uint64{full - 1, full, full, full}}
	for _, x := range []struct{ a, b, q, r api.Wide }{
		{top, wide.Of(1), top, wide.Of(0)},
		{top, wide.Of(-1), bottom, wide.Of(0)},
		{bottom, wide.Of(1), bottom, wide.Of(0)},
		{bottom, wide.Of(-1), top, wide.Of(0)},
		{bottom, wide.Of(2), wide.Neg(half), wide.Of(1)},
		{bottom, wide.Of(-2), half, wide.Of(1)},
		{wide.Of(-1), top, wide.Of(-1), below},
		{wide.Of(-1), bottom, wide.Of(1), below},
		{below, top, wide.Of(0), below},
		{top, top, wide.Of(1), wide.Of(0)},
		{bottom, below, wide.Of(-2), api.Wide{L: [4]uint64{full - 2, full, full, full}}},
	} {
		q, r, e := wide.DivMod(x.a, x.b)
		same(t, "quotient", q, e, x.q, api.OK)
		same(t, "remainder", r, e, x.r, api.OK)
	}
}

func TestNoArgumentsAndMany(t *testing.T) {
	sum, e := wide.Add()
	same(t, "Add()", sum, e, wide.Of(0), api.OK)
	product, e := wide.Mul()
	same(t, "Mul()", product, e, wide.Of(1), api.OK)
	sum, e = wide.Add([]api.Wide{}...)
	same(t, "Add of an empty slice", sum, e, wide.Of(0), api.OK)
	product, e = wide.Mul([]api.Wide{}...)
	same(t, "Mul of an empty slice", product, e, wide.Of(1), api.OK)
	sum, e = wide.Add(wide.Of(1), wide.Of(-2), wide.Of(3), wide.Of(-4))
	same(t, "Add of four", sum, e, wide.Of(-2), api.OK)
	product, e = wide.Mul(wide.Of(-1), wide.Of(2), wide.Of(-3), wide.Of(-4))
	same(t, "Mul of four", product, e, wide.Of(-24), api.OK)
}

// Steps are taken from left to right, and the first one without room ends it, whatever would follow.
func TestStepsFromLeftToRight(t *testing.T) {
	sum, e := wide.Add(top, wide.Of(1), wide.Of(-2))
	same(t, "top + 1 - 2", sum, e, api.Wide{}, api.ErrRange)
	sum, e = wide.Add(top, wide.Of(-2), wide.Of(1))
	same(t, "top - 2 + 1", sum, e, api.Wide{L: [4]uint64{full - 1, full, full, full}}, api.OK)
	product, e := wide.Mul(top, wide.Of(2), wide.Of(0))
	same(t, "top * 2 * 0", product, e, api.Wide{}, api.ErrRange)
	product, e = wide.Mul(top, wide.Of(0), wide.Of(2))
	same(t, "top * 0 * 2", product, e, api.Wide{}, api.OK)
	product, e = wide.Mul(root, root, minusZero)
	same(t, "2^128 * 2^128 * 0", product, e, api.Wide{}, api.ErrRange)
}

// P3: what was written is read back unchanged, and is what math/big writes.
func TestTextAndParse(t *testing.T) {
	l := edges()
	r := rand.New(rand.NewPCG(3, 4))
	for range 5000 {
		l = append(l, drawn(r))
	}
	for _, a := range l {
		s := wide.Text(a)
		if want := toBig(a).String(); s != want {
			t.Fatalf("Text(%v): %s, want %s", a, s, want)
		}
		check(t, "Parse", parsed(t, s), api.OK, toBig(a))
	}
	for _, s := range []string{"0", "1", "-1", "9", "10", "-10", "99", "100", "18446744073709551615", "18446744073709551616", "-340282366920938463463374607431768211456", topText, "-" + topText} {
		if got := wide.Text(parsed(t, s)); got != s {
			t.Errorf("%s is written as %s", s, got)
		}
	}
}

// shown is a text in a message: it may be long, and hold any bytes.
func shown(s string) string {
	return strconv.Quote(s[:min(len(s), 100)])
}

func TestParseRefusesOtherTexts(t *testing.T) {
	for _, s := range []string{
		"", "-", "--1", "-0", "-00", "00", "01", "-01", "007", "+1", "+0", " 1", "1 ", "1\n", "1 2", "1_000", "1a", "a1", "-a",
		"0x10", "1e3", "1.0", ".", "1-", "- 1", "\x00", "1\x00", "\xff", "1\xff2", "\u0661", "1\u0662", "\uff11", "\u22121",
		"/", ":", "1/", "1:", topText + "x", "0" + topText, "-0" + topText, "+" + topText, topText + "0-", strings.Repeat("9", 500) + "x",
	} {
		w, e := wide.Parse(s)
		same(t, shown(s), w, e, api.Wide{}, api.ErrText)
	}
}

func TestParseRefusesWhatDoesNotFit(t *testing.T) {
	const beyond = "115792089237316195423570985008687907853269984665640564039457584007913129639936" // 2^256
	for _, s := range []string{
		beyond, "-" + beyond, topText + "0", "-" + topText + "0", "1" + strings.Repeat("0", 78), strings.Repeat("9", 78),
		"115792089237316195423570985008687907853269984665640564039457584007913129639940", strings.Repeat("7", 100000), "-" + strings.Repeat("7", 100000),
	} {
		w, e := wide.Parse(s)
		same(t, shown(s), w, e, api.Wide{}, api.ErrRange)
	}
	same(t, "Parse of the greatest", parsed(t, topText), api.OK, top, api.OK)
	same(t, "Parse of the least", parsed(t, "-"+topText), api.OK, bottom, api.OK)
	digits := "1" + strings.Repeat("0", 77)
	if w := parsed(t, digits); wide.Text(w) != digits {
		t.Error("10^77", w)
	}
}

// P1: no call panics, whatever it is given, and each answers the same again (R4) and leaves its arguments alone (R2).
func TestAnyInput(t *testing.T) {
	couples(func(a, b api.Wide) {
		l := []api.Wide{a, b, a}
		sum, e := wide.Add(l...)
		sum2, e2 := wide.Add(l...)
		product, f := wide.Mul(l...)
		product2, f2 := wide.Mul(l...)
		if sum != sum2 || e != e2 || product != product2 || f != f2 {
			t.Fatalf("another answer the second time for %v, %v", a, b)
		}
		if l[0] != a || l[1] != b || l[2] != a {
			t.Fatalf("arguments changed: %v", l)
		}
		wide.DivMod(b, a)
		wide.Int(a)
		wide.Parse(wide.Text(a) + wide.Text(b))
	})
}

func FuzzParse(f *testing.F) {
	for _, s := range []string{"", "0", "-0", "-1", "01", topText, topText + "1", "1\xff"} {
		f.Add(s)
	}
	f.Fuzz(func(t *testing.T, s string) {
		w, e := wide.Parse(s)
		n, ok := new(big.Int).SetString(s, 10)
		if !ok || n.String() != s {
			same(t, shown(s), w, e, api.Wide{}, api.ErrText)
			return
		}
		check(t, shown(s), w, e, n)
		if e == api.OK && wide.Text(w) != s {
			t.Errorf("%s is written as %s", s, wide.Text(w))
		}
	})
}

func FuzzArithmetic(f *testing.F) {
	f.Add(false, uint64(0), uint64(1), uint64(0), uint64(0), true, uint64(7), uint64(0), uint64(0), uint64(0))
	f.Add(true, uint64(full), uint64(full), uint64(full), uint64(full), true, uint64(full), uint64(0), uint64(full), uint64(1))
	f.Fuzz(func(t *testing.T, m bool, a0, a1, a2, a3 uint64, n bool, b0, b1, b2, b3 uint64) {
		a, b := api.Wide{Minus: m, L: [4]uint64{a0, a1, a2, a3}}, api.Wide{Minus: n, L: [4]uint64{b0, b1, b2, b3}}
		x, y := toBig(a), toBig(b)
		sum, e := wide.Add(a, b)
		check(t, "Add", sum, e, new(big.Int).Add(x, y))
		rest, e := wide.Sub(a, b)
		check(t, "Sub", rest, e, new(big.Int).Sub(x, y))
		product, e := wide.Mul(a, b)
		check(t, "Mul", product, e, new(big.Int).Mul(x, y))
		if y.Sign() != 0 {
			q, r, e := wide.DivMod(a, b)
			wantQ, wantR := new(big.Int).DivMod(x, y, new(big.Int))
			check(t, "quotient", q, e, wantQ)
			check(t, "remainder", r, e, wantR)
		}
	})
}
