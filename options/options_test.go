package options_test

import (
	"bytes"
	"math"
	"math/big"
	"math/rand/v2"
	"regexp"
	"slices"
	"strconv"
	"strings"
	"testing"

	"parquet/api"
	"parquet/options"
)

// The type and the calls that the chapter lists, with their exact signatures: a change of one does not compile.
var (
	_ func(*api.Options)                            = options.Set(nil)
	_ func(int) options.Set                         = options.Mode
	_ func(int) options.Set                         = options.Budget
	_ func(bool) options.Set                        = options.Refine
	_ func(...options.Set) (api.Options, api.Errno) = options.Make
	_ func(api.Options) api.Errno                   = options.Check
	_ func(api.Options) (string, api.Errno)         = options.Print
	_ func([]byte) (api.Options, int, api.Errno)    = options.Parse
)

// opts are options, in the order of their fields.
func opts(mode, budget int, refine bool) api.Options {
	return api.Options{Mode: mode, Budget: budget, Refine: refine}
}

// shown is a text for a message, cut if it is long.
func shown(s string) string {
	if len(s) > 200 {
		return strconv.Quote(s[:200]) + ".."
	}
	return strconv.Quote(s)
}

// What the chapter says of texts, told another way: the kinds of the words of a text, a letter each, are held against all orders that there may be.

type word struct {
	at   int
	text string
}

var (
	inLine = regexp.MustCompile(`[^ \t\r]+`)
	exact  = regexp.MustCompile(`\A(0|-?[1-9][0-9]*)\z`)
)

// plainWords are the words of s, line by line.
func plainWords(s string) []word {
	var l []word
	from := 0
	for _, line := range strings.Split(s, "\n") {
		for _, span := range inLine.FindAllStringIndex(line, -1) {
			if line[span[0]] == '#' {
				break
			}
			l = append(l, word{from + span[0], line[span[0]:span[1]]})
		}
		from += len(line) + 1
	}
	return l
}

// kind is m for a mode, b and r for their words, n for a number, x for one beyond the range, and ? for any other word.
func kind(text string) string {
	switch text {
	case "tri", "quad", "all":
		return "m"
	case "budget":
		return "b"
	case "refine":
		return "r"
	}
	if !exact.MatchString(text) {
		return "?"
	}
	n, _ := new(big.Int).SetString(text, 10)
	if n.Cmp(big.NewInt(0)) < 0 || n.Cmp(big.NewInt(100)) > 0 {
		return "x"
	}
	return "n"
}

// begins tells whether words of these kinds are some of those with which a right text begins.
func begins(kinds string) bool {
	return strings.HasPrefix("mbnr", kinds) || strings.HasPrefix("mrbn", kinds)
}

func plainParse(s string) (api.Options, int, api.Errno) {
	var o api.Options
	kinds := ""
	l := plainWords(s)
	for _, w := range l {
		k := kind(w.text)
		if k == "x" && begins(kinds+"n") {
			return api.Options{}, w.at, api.ErrRange
		}
		kinds += k
		if !begins(kinds) {
			return api.Options{}, w.at, api.ErrText
		}
		switch k {
		case "m":
			o.Mode = map[string]int{"tri": 1, "quad": 2, "all": 3}[w.text]
		case "n":
			o.Budget, _ = strconv.Atoi(w.text)
		case "r":
			o.Refine = true
		}
	}
	if kinds == "" || strings.HasSuffix(kinds, "b") {
		return api.Options{}, len(s), api.ErrText
	}
	return o, 0, api.OK
}

func plainValid(o api.Options) bool {
	return (o.Mode == 1 || o.Mode == 2 || o.Mode == 3) && o.Budget > -1 && o.Budget < 101
}

func plainPrint(o api.Options) string {
	s := strings.Split("-/tri/quad/all", "/")[o.Mode]
	if o.Budget != 0 {
		s += " budget " + strconv.Itoa(o.Budget)
	}
	if o.Refine {
		s += " refine"
	}
	return s + "\n"
}

// checkParse holds Parse against what is wanted.
func checkParse(t *testing.T, s string, o api.Options, n int, e api.Errno) {
	t.Helper()
	b := []byte(s)
	gotO, gotN, gotE := options.Parse(b)
	if gotO != o || gotN != n || gotE != e {
		t.Fatalf("Parse(%s) = %v, %d, %d, want %v, %d, %d", shown(s), gotO, gotN, gotE, o, n, e)
	}
	if string(b) != s {
		t.Fatalf("Parse(%s) changed its bytes", shown(s))
	}
}

// checkRefused wants that error, there, and the zero Options with it.
func checkRefused(t *testing.T, s string, n int, e api.Errno) {
	t.Helper()
	checkParse(t, s, api.Options{}, n, e)
}

// checkPlain holds Parse against the other way.
func checkPlain(t *testing.T, s string) {
	t.Helper()
	o, n, e := plainParse(s)
	checkParse(t, s, o, n, e)
}

// checkMade holds what Make returns against what is wanted.
func checkMade(t *testing.T, want api.Options, l ...options.Set) {
	t.Helper()
	if o, e := options.Make(l...); o != want || e != api.OK {
		t.Errorf("Make = %v, %d, want %v", o, e, want)
	}
}

// checkNotMade wants ErrArg, and the zero Options.
func checkNotMade(t *testing.T, l ...options.Set) {
	t.Helper()
	if o, e := options.Make(l...); o != (api.Options{}) || e != api.ErrArg {
		t.Errorf("Make = %v, %d, want ErrArg", o, e)
	}
}

// checkValid wants o to be made, printed in exactly its line, and read back.
func checkValid(t *testing.T, o api.Options) {
	t.Helper()
	if e := options.Check(o); e != api.OK {
		t.Fatalf("Check(%v) = %d", o, e)
	}
	s, e := options.Print(o)
	if want := plainPrint(o); s != want || e != api.OK {
		t.Fatalf("Print(%v) = %s, %d, want %s", o, shown(s), e, shown(want))
	}
	checkParse(t, s, o, 0, api.OK)
	checkMade(t, o, options.Mode(o.Mode), options.Budget(o.Budget), options.Refine(o.Refine))
	checkMade(t, o, func(p *api.Options) { *p = o })
}

// checkInvalid wants ErrArg, and neither a text nor options.
func checkInvalid(t *testing.T, o api.Options) {
	t.Helper()
	if e := options.Check(o); e != api.ErrArg {
		t.Fatalf("Check(%v) = %d, want ErrArg", o, e)
	}
	if s, e := options.Print(o); s != "" || e != api.ErrArg {
		t.Fatalf("Print(%v) = %s, %d, want ErrArg", o, shown(s), e)
	}
	checkNotMade(t, options.Mode(o.Mode), options.Budget(o.Budget), options.Refine(o.Refine))
	checkNotMade(t, func(p *api.Options) { *p = o })
}

// check wants Check, Print and Make to be as the other way tells.
func check(t *testing.T, o api.Options) {
	t.Helper()
	if plainValid(o) {
		checkValid(t, o)
	} else {
		checkInvalid(t, o)
	}
}

// valid are all Options that are.
func valid() []api.Options {
	var l []api.Options
	for mode := 1; mode <= 3; mode++ {
		for budget := range 101 {
			l = append(l, opts(mode, budget, false), opts(mode, budget, true))
		}
	}
	return l
}

func TestExamples(t *testing.T) {
	checkParse(t, "all budget 7 refine", opts(3, 7, true), 0, api.OK)
	checkMade(t, opts(3, 5, false), options.Mode(2), options.Budget(5), options.Mode(3))
}

// P3: what was written is read back, for all Options that are valid.
func TestReadBack(t *testing.T) {
	l := valid()
	if len(l) != 606 {
		t.Fatal(len(l))
	}
	for _, o := range l {
		checkValid(t, o)
	}
}

func TestPrint(t *testing.T) {
	for _, x := range []struct {
		o    api.Options
		want string
	}{
		{opts(1, 0, false), "tri\n"}, {opts(2, 0, false), "quad\n"}, {opts(3, 0, false), "all\n"},
		{opts(1, 0, true), "tri refine\n"}, {opts(2, 1, false), "quad budget 1\n"}, {opts(3, 9, true), "all budget 9 refine\n"},
		{opts(1, 10, false), "tri budget 10\n"}, {opts(1, 19, false), "tri budget 19\n"}, {opts(2, 90, true), "quad budget 90 refine\n"},
		{opts(3, 99, false), "all budget 99\n"}, {opts(2, 100, true), "quad budget 100 refine\n"}, {opts(1, 100, false), "tri budget 100\n"},
	} {
		if s, e := options.Print(x.o); s != x.want || e != api.OK {
			t.Errorf("Print(%v) = %q, %d, want %q", x.o, s, e, x.want)
		}
	}
}

func TestValidAndInvalid(t *testing.T) {
	modes := []int{math.MinInt, -1 << 32, -3, -2, -1, 0, 1, 2, 3, 4, 5, 100, 1<<32 + 1, 1<<62 + 2, math.MaxInt}
	budgets := []int{math.MinInt, -1 << 32, -101, -100, -2, -1, 0, 1, 50, 99, 100, 101, 102, 1 << 32, math.MaxInt}
	right := 0
	for _, mode := range modes {
		for _, budget := range budgets {
			for _, refine := range []bool{false, true} {
				o := opts(mode, budget, refine)
				check(t, o)
				if options.Check(o) == api.OK {
					right++
				}
			}
		}
	}
	if right != 3*5*2 {
		t.Errorf("%d are valid", right)
	}
	checkInvalid(t, api.Options{})
	checkValid(t, opts(1, api.MaxBudget, true))
	checkInvalid(t, opts(1, api.MaxBudget+1, true))
}

func TestMakeWithoutSets(t *testing.T) {
	start := opts(api.ModeTri, 0, false)
	checkMade(t, start)
	checkMade(t, start, nil)
	checkMade(t, start, nil, nil, nil)
	checkMade(t, start, []options.Set{}...)
	checkMade(t, start, []options.Set(nil)...)
}

func TestMakeSkipsNilSets(t *testing.T) {
	l := []options.Set{options.Mode(2), options.Budget(7), options.Refine(true)}
	for i := range len(l) + 1 {
		checkMade(t, opts(2, 7, true), slices.Insert(slices.Clone(l), i, nil)...)
		checkMade(t, opts(2, 7, true), slices.Insert(slices.Clone(l), i, nil, nil)...)
	}
	checkNotMade(t, nil, options.Mode(0), nil)
}

// Each Set sets its own field, and no other.
func TestEachSet(t *testing.T) {
	for n := -5; n <= 5; n++ {
		o := opts(70, 80, true)
		if options.Mode(n)(&o); o != opts(n, 80, true) {
			t.Errorf("Mode(%d): %v", n, o)
		}
		o = opts(70, 80, true)
		if options.Budget(n)(&o); o != opts(70, n, true) {
			t.Errorf("Budget(%d): %v", n, o)
		}
		for _, on := range []bool{false, true} {
			o = opts(70, n, !on)
			if options.Refine(on)(&o); o != opts(70, n, on) {
				t.Errorf("Refine(%v): %v", on, o)
			}
		}
	}
	checkMade(t, opts(3, 0, false), options.Mode(3))
	checkMade(t, opts(1, 100, false), options.Budget(100))
	checkMade(t, opts(1, 0, true), options.Refine(true))
	checkMade(t, opts(1, 0, false), options.Refine(false))
}

// P1: a Set for options that are not there.
func TestSetsOfNil(t *testing.T) {
	for _, set := range []options.Set{options.Mode(2), options.Mode(-1), options.Budget(7), options.Budget(101), options.Refine(true), options.Refine(false)} {
		set(nil)
		if _, e := options.Make(set, options.Mode(1), options.Budget(0)); e != api.OK {
			t.Error(e)
		}
	}
}

// What is set last takes effect, in each order.
func TestTheLastTakesEffect(t *testing.T) {
	for a := range 3 {
		for b := range 3 {
			checkMade(t, opts(b+1, 0, false), options.Mode(a+1), options.Mode(b+1))
			checkMade(t, opts(1, b, false), options.Budget(a), options.Budget(b))
			checkMade(t, opts(b+1, a, true), options.Mode(a+1), options.Budget(b), options.Refine(false), options.Budget(a), options.Refine(true), options.Mode(b+1))
			checkMade(t, opts(a+1, b, false), options.Refine(true), options.Budget(a), options.Mode(b+1), options.Refine(false), options.Mode(a+1), options.Budget(b))
		}
	}
	checkMade(t, opts(1, 0, false), options.Refine(true), options.Refine(false))
	checkMade(t, opts(1, 0, true), options.Refine(false), options.Refine(true))
	checkMade(t, opts(1, 0, true), options.Refine(true), options.Refine(true))
	checkMade(t, opts(2, 9, false), options.Budget(8), options.Mode(3), options.Budget(9), options.Mode(2))
}

// Sets of three fields in all their orders.
func TestOrdersOfSets(t *testing.T) {
	l := []options.Set{options.Mode(3), options.Budget(100), options.Refine(true)}
	for i := range l {
		for k := range l {
			if i != k {
				checkMade(t, opts(3, 100, true), l[i], l[k], l[3-i-k])
			}
		}
	}
}

func TestTheSameSetTwice(t *testing.T) {
	mode, budget, refine := options.Mode(2), options.Budget(5), options.Refine(true)
	checkMade(t, opts(2, 5, true), mode, mode, budget, budget, refine, refine)
	checkMade(t, opts(2, 5, true), mode, budget, refine, mode, budget, refine)
	checkMade(t, opts(2, 5, true), mode, options.Mode(3), budget, options.Budget(0), refine, options.Refine(false), refine, budget, mode)
	checkMade(t, opts(1, 0, false), options.Mode(1), options.Mode(1), options.Refine(false), options.Refine(false))
	raise := func(o *api.Options) { o.Budget += 40 }
	checkMade(t, opts(1, 80, false), raise, raise)
	checkNotMade(t, raise, raise, raise)
}

// Only the options at the end are checked.
func TestInvalidOnTheWay(t *testing.T) {
	for _, n := range []int{0, 4, -1, math.MinInt, math.MaxInt} {
		checkNotMade(t, options.Mode(n))
		checkNotMade(t, options.Mode(2), options.Mode(n))
		checkNotMade(t, options.Mode(n), options.Budget(1), options.Refine(true))
		checkMade(t, opts(3, 0, false), options.Mode(n), options.Mode(3))
		checkMade(t, opts(1, 0, true), options.Mode(n), options.Refine(true), options.Mode(1))
	}
	for _, n := range []int{-1, 101, math.MinInt, math.MaxInt} {
		checkNotMade(t, options.Budget(n))
		checkNotMade(t, options.Budget(100), options.Budget(n))
		checkNotMade(t, options.Budget(n), options.Mode(1), options.Refine(true))
		checkMade(t, opts(1, 100, false), options.Budget(n), options.Budget(100))
		checkMade(t, opts(2, 0, false), options.Budget(n), options.Mode(2), options.Budget(0))
	}
	checkNotMade(t, options.Mode(0), options.Budget(101), options.Mode(1))
	checkNotMade(t, options.Mode(0), options.Budget(101), options.Budget(1))
	checkMade(t, opts(1, 1, false), options.Mode(0), options.Budget(101), options.Mode(1), options.Budget(1))
}

// A Set of the caller's own is called once, in its turn, and sees what the others ahead of it have set.
func TestOwnSets(t *testing.T) {
	var seen []api.Options
	look := func(o *api.Options) { seen = append(seen, *o) }
	want := []api.Options{opts(1, 0, false), opts(0, 0, false), opts(0, 7, false), opts(0, 7, true), opts(3, 7, true)}
	checkMade(t, opts(3, 7, true), look, options.Mode(0), look, options.Budget(7), nil, look, options.Refine(true), look, options.Mode(3), look)
	if !slices.Equal(seen, want) {
		t.Errorf("seen %v, want %v", seen, want)
	}
	checkMade(t, opts(2, 4, true), func(o *api.Options) { *o = opts(2, 3, true) }, func(o *api.Options) { o.Budget++ })
	checkMade(t, opts(1, 0, false), func(*api.Options) {})
	checkNotMade(t, options.Mode(2), func(o *api.Options) { *o = api.Options{} })
	// One that makes options itself.
	checkMade(t, opts(2, 8, true), options.Budget(8), func(o *api.Options) {
		checkMade(t, opts(3, 0, false), options.Mode(3))
		checkNotMade(t, options.Budget(-1))
		o.Mode = 2
	}, options.Refine(true))
}

// R2: what a Set of the caller's own keeps is none of what Make returns, nor of what it makes later on.
func TestOwnSetsThatKeep(t *testing.T) {
	var kept *api.Options
	keep := func(o *api.Options) { kept = o }
	one, _ := options.Make(options.Mode(2), keep)
	*kept = opts(9, 9, true)
	if one != opts(2, 0, false) {
		t.Errorf("changed to %v", one)
	}
	checkMade(t, opts(1, 0, false))
	checkMade(t, opts(1, 3, false), options.Budget(3), func(*api.Options) { *kept = opts(8, 8, true) })
}

// R2: the list of Sets stays as it is, up to its capacity, and those beyond its end are not called.
func TestSetsStay(t *testing.T) {
	calls := [5]int{}
	counted := func(i int) options.Set {
		return func(*api.Options) { calls[i]++ }
	}
	l := []options.Set{counted(0), nil, counted(2), counted(3), nil}
	checkMade(t, opts(1, 0, false), l[:3]...)
	if calls != [5]int{1, 0, 1, 0, 0} {
		t.Errorf("called %v", calls)
	}
	for i, set := range l {
		if (set == nil) != (i == 1 || i == 4) {
			t.Fatalf("the Set with the index %d changed", i)
		}
		if set != nil {
			set(nil)
		}
	}
	if calls != [5]int{2, 0, 2, 1, 0} {
		t.Errorf("called %v", calls)
	}
}

// R4: a Set does the same in each call. R3: one that was handed in is not kept for the next.
func TestASetInTwoCalls(t *testing.T) {
	mode, budget, refine := options.Mode(3), options.Budget(6), options.Refine(true)
	for range 3 {
		checkMade(t, opts(3, 6, true), mode, budget, refine)
		checkMade(t, opts(3, 0, false), mode)
		checkMade(t, opts(1, 6, false), budget)
		checkMade(t, opts(1, 0, true), refine)
		checkMade(t, opts(1, 0, false))
		checkNotMade(t, mode, options.Mode(7))
	}
	// Two of the same call are two.
	first, second := options.Budget(1), options.Budget(2)
	checkMade(t, opts(1, 1, false), second, first)
	checkMade(t, opts(1, 2, false), first, second)
	calls := 0
	count := func(*api.Options) { calls++ }
	options.Make(count)
	options.Make()
	options.Make(options.Mode(0))
	if options.Make(count, options.Mode(9)); calls != 2 {
		t.Errorf("called %d times", calls)
	}
}

func TestManySets(t *testing.T) {
	var l []options.Set
	for i := range 100000 {
		l = append(l, options.Mode(i), options.Budget(-i), nil, options.Refine(i%2 == 0))
	}
	checkNotMade(t, l...)
	checkMade(t, opts(2, 99, false), append(l, options.Mode(2), options.Budget(99))...)
}

func TestParse(t *testing.T) {
	for _, x := range []struct {
		s    string
		want api.Options
	}{
		{"tri", opts(1, 0, false)}, {"quad", opts(2, 0, false)}, {"all", opts(3, 0, false)},
		{"tri refine", opts(1, 0, true)}, {"quad budget 1", opts(2, 1, false)}, {"all budget 100", opts(3, 100, false)},
		{"tri budget 10 refine", opts(1, 10, true)}, {"tri refine budget 10", opts(1, 10, true)},
		{"quad budget 100 refine", opts(2, 100, true)}, {"quad refine budget 100", opts(2, 100, true)},
		{"all budget 0", opts(3, 0, false)}, {"all budget 0 refine", opts(3, 0, true)}, {"all refine budget 0", opts(3, 0, true)},
		{"quad budget 99", opts(2, 99, false)},
	} {
		checkParse(t, x.s, x.want, 0, api.OK)
		checkPlain(t, x.s)
		checkPlain(t, x.s+"\n")
	}
}

// Each budget, ahead of `refine` and behind it.
func TestBudgets(t *testing.T) {
	for n := -300; n <= 300; n++ {
		s := strconv.Itoa(n)
		if n >= 0 && n <= 100 {
			checkParse(t, "quad budget "+s, opts(2, n, false), 0, api.OK)
			checkParse(t, "quad budget "+s+" refine", opts(2, n, true), 0, api.OK)
			checkParse(t, "quad refine budget "+s, opts(2, n, true), 0, api.OK)
			continue
		}
		checkRefused(t, "quad budget "+s, 12, api.ErrRange)
		checkRefused(t, "quad budget "+s+" refine", 12, api.ErrRange)
		checkRefused(t, "quad refine budget "+s, 19, api.ErrRange)
	}
	for _, s := range []string{
		"4294967296", "-4294967296", "9223372036854775807", "-9223372036854775808", "9223372036854775808", "-9223372036854775809",
		"18446744073709551616", "18446744073709551617", "-18446744073709551615", strings.Repeat("9", 99), "-" + strings.Repeat("9", 99),
	} {
		checkRefused(t, "tri budget "+s, 11, api.ErrRange)
		checkRefused(t, "all refine budget "+s, 18, api.ErrRange)
	}
}

func TestBudgetsThatAreNoNumbers(t *testing.T) {
	for _, wrong := range []string{
		"x", "-", "-0", "00", "01", "007", "+1", "0x1", "1.", "1.0", "1e2", "7#", "\xff", "\u0661", "--1", "1_0", "-01", "99999999999999999999x", "1,", "\x00",
		"tri", "quad", "all", "budget", "refine", "budget1",
	} {
		checkRefused(t, "tri budget "+wrong, 11, api.ErrText)
		checkRefused(t, "tri budget "+wrong+" 7", 11, api.ErrText)
		checkRefused(t, "quad budget "+wrong+" refine", 12, api.ErrText)
		checkRefused(t, "all refine budget "+wrong, 18, api.ErrText)
	}
	checkRefused(t, "tri budget=7", 4, api.ErrText)
	checkRefused(t, "tri budget7", 4, api.ErrText)
}

func TestBudgetWithoutNumber(t *testing.T) {
	checkRefused(t, "tri budget", 10, api.ErrText)
	checkRefused(t, "tri budget ", 11, api.ErrText)
	checkRefused(t, "tri budget # 7", 14, api.ErrText)
	checkRefused(t, "tri budget # 7\n", 15, api.ErrText)
	checkRefused(t, "all refine budget", 17, api.ErrText)
	checkRefused(t, "all refine budget\n\n", 19, api.ErrText)
	checkRefused(t, "all budget refine", 11, api.ErrText)
	checkRefused(t, "all budget refine 7", 11, api.ErrText)
	// A number that has none.
	checkRefused(t, "all 7", 4, api.ErrText)
	checkRefused(t, "all 7 budget", 4, api.ErrText)
	checkRefused(t, "all 101", 4, api.ErrText)
	checkRefused(t, "all -1", 4, api.ErrText)
	checkRefused(t, "all refine 7", 11, api.ErrText)
	checkRefused(t, "all budget 7 8", 13, api.ErrText)
	checkRefused(t, "all budget 7 101", 13, api.ErrText)
	checkRefused(t, "all budget 7 refine 8", 20, api.ErrText)
	checkRefused(t, "all budget 7 refine -1", 20, api.ErrText)
}

func TestNoWords(t *testing.T) {
	for _, b := range [][]byte{nil, {}} {
		if o, n, e := options.Parse(b); o != (api.Options{}) || n != 0 || e != api.ErrText {
			t.Error(o, n, e)
		}
	}
	for _, s := range []string{" ", "\n", "# tri", "#tri\n", " \t\r\n", "#", "#\n# all budget 7\n", "\n\n\n"} {
		checkRefused(t, s, len(s), api.ErrText)
	}
}

func TestFirstWord(t *testing.T) {
	for _, first := range []string{
		"budget", "refine", "0", "1", "2", "3", "7", "101", "-1", "x", "-", "tr", "trie", "tri#", "quads", "qua", "al", "all,", "a", "t", "q", "triangle",
		"Tri", "TRI", "trI", "Quad", "QUAD", "All", "ALL", "poly", "none", "\xfftri", "\x00", "tri\x00", "\vtri", "\u00a0tri", "triquad", "18446744073709551616", "tri,quad",
	} {
		checkRefused(t, first, 0, api.ErrText)
		checkRefused(t, first+" tri", 0, api.ErrText)
		checkRefused(t, first+" budget 7", 0, api.ErrText)
		checkRefused(t, " #\n"+first+" refine", 3, api.ErrText)
		// It is told ahead of all that is wrong behind it.
		checkRefused(t, first+" budget 101 x", 0, api.ErrText)
		checkRefused(t, first+" 7 budget", 0, api.ErrText)
	}
	checkRefused(t, "budget 7 tri", 0, api.ErrText)
	checkRefused(t, "refine tri", 0, api.ErrText)
	checkRefused(t, "budget 101 tri", 0, api.ErrText)
	checkRefused(t, "7 tri", 0, api.ErrText)
}

func TestAModeASecondTime(t *testing.T) {
	for _, first := range []string{"tri", "quad", "all"} {
		for _, second := range []string{"tri", "quad", "all"} {
			n := len(first)
			checkRefused(t, first+" "+second, n+1, api.ErrText)
			checkRefused(t, first+" "+second+" refine", n+1, api.ErrText)
			checkRefused(t, first+" refine "+second, n+8, api.ErrText)
			checkRefused(t, first+" budget "+second, n+8, api.ErrText)
			checkRefused(t, first+" budget 7 "+second, n+10, api.ErrText)
			checkRefused(t, first+" budget 7 "+second+" refine", n+10, api.ErrText)
			checkRefused(t, first+" budget 7 refine "+second, n+17, api.ErrText)
			checkRefused(t, first+" refine budget 7 "+second, n+17, api.ErrText)
		}
	}
}

// Next to each other and apart; the first one's number may be 0, and that of the second one may be missing, another one, or wrong.
func TestASecondTime(t *testing.T) {
	for _, number := range []string{"0", "7", "9"} {
		checkRefused(t, "tri budget "+number+" budget "+number, 13, api.ErrText)
		checkRefused(t, "tri budget "+number+" refine budget "+number, 20, api.ErrText)
		checkRefused(t, "tri refine budget "+number+" budget "+number, 20, api.ErrText)
		checkRefused(t, "tri refine budget "+number+" refine", 20, api.ErrText)
		for _, second := range []string{"", " ", " 0", " 100", " 101", " -1", " x", " budget", " refine", " 7 refine"} {
			checkRefused(t, "all budget "+number+" budget"+second, 13, api.ErrText)
			checkRefused(t, "all budget "+number+" refine budget"+second, 20, api.ErrText)
		}
	}
	checkRefused(t, "tri refine refine", 11, api.ErrText)
	checkRefused(t, "tri refine refine refine", 11, api.ErrText)
	checkRefused(t, "tri refine refine budget 7", 11, api.ErrText)
	checkRefused(t, "tri refine budget 7 refine", 20, api.ErrText)
	checkRefused(t, "tri budget 7 refine refine", 20, api.ErrText)
	checkRefused(t, "tri budget 0 budget 0", 13, api.ErrText)
	checkRefused(t, "tri budget budget 7", 11, api.ErrText)
	checkRefused(t, "tri budget budget 7 7", 11, api.ErrText)
}

// description is a text of the words, and where each of them begins.
func description(words []string, gap string) (string, []int) {
	s := ""
	var at []int
	for _, w := range words {
		at = append(at, len(s))
		s += w + gap
	}
	return strings.TrimSuffix(s, gap), at
}

// right are the words of texts that are, in each order.
func right() [][]string {
	var l [][]string
	for _, mode := range []string{"tri", "quad", "all"} {
		for _, rest := range []string{"", " refine", " budget 0", " budget 7", " budget 100", " budget 42 refine", " refine budget 42", " budget 0 refine", " refine budget 0"} {
			l = append(l, strings.Fields(mode+rest))
		}
	}
	return l
}

// An unknown word at each place: instead of a word, and ahead of it.
func TestUnknownWords(t *testing.T) {
	for _, words := range right() {
		for _, wrong := range []string{"x", "budgets", "refin", "Budget", "BUDGET", "Refine", "refinE", "mode", "-", "-0", "07", "on", "\xff", "re#fine", "tri#", "budget\x00", "r\u00e9fine"} {
			for i := range len(words) + 1 {
				s, at := description(slices.Insert(slices.Clone(words), i, wrong), " ")
				checkRefused(t, s, at[i], api.ErrText)
				if i < len(words) {
					spoilt := slices.Clone(words)
					spoilt[i] = wrong
					s, at = description(spoilt, "\n")
					checkRefused(t, s, at[i], api.ErrText)
				}
			}
		}
	}
}

// Capital letters are others, each of them.
func TestCapitalLetters(t *testing.T) {
	for _, words := range right() {
		for i, w := range words {
			for k := range len(w) {
				if w[k] < 'a' {
					continue
				}
				spoilt := slices.Clone(words)
				spoilt[i] = w[:k] + strings.ToUpper(w[k:k+1]) + w[k+1:]
				s, at := description(spoilt, " ")
				checkRefused(t, s, at[i], api.ErrText)
			}
		}
		s := strings.ToUpper(strings.Join(words, " "))
		checkRefused(t, s, 0, api.ErrText)
	}
}

// A text that is cut short ahead of a word, with the blanks ahead of that one or without: it is right, or the place is its end.
func TestCutShort(t *testing.T) {
	for _, words := range right() {
		for _, gap := range []string{" ", "\n", " # tri budget 7 refine\n", "\r\n\t"} {
			s, at := description(words, gap)
			for i, from := range at {
				missing := i == 0 || words[i-1] == "budget"
				for _, cut := range []int{from, max(from-len(gap), 0)} {
					if missing {
						checkRefused(t, s[:cut], cut, api.ErrText)
					} else if o, n, e := options.Parse([]byte(s[:cut])); o.Mode == 0 || n != 0 || e != api.OK {
						t.Errorf("Parse(%q) = %v, %d, %d", s[:cut], o, n, e)
					}
					checkPlain(t, s[:cut])
				}
			}
			checkPlain(t, s)
		}
	}
}

// Cut anywhere, also within a word.
func TestCutAnywhere(t *testing.T) {
	for _, o := range valid() {
		s := plainPrint(o)
		for i := range len(s) + 1 {
			checkPlain(t, s[:i])
		}
	}
}

func TestTheFirstWrongWordCounts(t *testing.T) {
	for _, x := range []struct {
		s string
		n int
		e api.Errno
	}{
		// A wrong word behind a number beyond its range.
		{"tri budget 101 x", 11, api.ErrRange}, {"tri budget -1 x", 11, api.ErrRange}, {"tri budget 101 tri", 11, api.ErrRange}, {"tri budget 101 budget", 11, api.ErrRange},
		{"tri budget 101 budget 7", 11, api.ErrRange}, {"tri budget 101 refine refine", 11, api.ErrRange}, {"tri refine budget 101 refine", 18, api.ErrRange}, {"tri budget 101 7", 11, api.ErrRange},
		// The other way round.
		{"x budget 101", 0, api.ErrText}, {"tri x budget 101", 4, api.ErrText}, {"tri refine refine budget 101", 11, api.ErrText}, {"tri quad budget -1", 4, api.ErrText},
		{"tri budget x 101", 11, api.ErrText}, {"tri budget 7 budget 101", 13, api.ErrText}, {"tri 101 budget 101", 4, api.ErrText}, {"tri budget budget 101", 11, api.ErrText},
		// Two of the same kind.
		{"x y", 0, api.ErrText}, {"tri x y", 4, api.ErrText}, {"tri budget 101 102", 11, api.ErrRange}, {"tri budget 101 budget 102", 11, api.ErrRange}, {"all y budget", 4, api.ErrText},
		// A wrong word, and one that is missing behind it.
		{"tri x budget", 4, api.ErrText}, {"tri budget 101 budget", 11, api.ErrRange}, {"tri budget 7 budget", 13, api.ErrText},
	} {
		checkRefused(t, x.s, x.n, x.e)
		checkPlain(t, x.s)
	}
}

// All texts of up to five words, of those that belong there and some that do not.
func TestAllShortTexts(t *testing.T) {
	words := []string{"tri", "quad", "budget", "refine", "0", "7", "100", "101", "-1", "x"}
	var grow func(s string, left int)
	grow = func(s string, left int) {
		checkPlain(t, s)
		if left > 0 {
			for _, w := range words {
				grow(s+" "+w, left-1)
			}
		}
	}
	grow("", 5)
}

// All texts of up to four words behind a mode.
func TestAllLongerTexts(t *testing.T) {
	words := []string{"all", "budget", "refine", "0", "7", "101", "x"}
	var grow func(s string, left int)
	grow = func(s string, left int) {
		checkPlain(t, s)
		if left > 0 {
			for _, w := range words {
				grow(s+"\n"+w, left-1)
			}
		}
	}
	grow("quad budget 5", 4)
	grow("quad refine budget 0", 4)
	grow("quad budget 5 refine", 4)
}

func TestBlanksAndComments(t *testing.T) {
	gaps := []string{" ", "\n", "\t", "\r", "\r\n", "  \n\n", " # a comment\n", "\n#\n#x 1 2\n\t", "\t#a\r#\t\n", " #refine\n", " # budget 9\n"}
	ahead := []string{"", " ", "\n", "# ahead\n", "\r\n#\n\t", "#all\n"}
	behind := []string{"", " ", "\n\n", " # behind", "\n#\n", " # refine\n \t", "\r\n", " #"}
	for _, words := range right() {
		want, n, e := plainParse(strings.Join(words, " "))
		if n != 0 || e != api.OK {
			t.Fatal(words, n, e)
		}
		for _, gap := range gaps {
			for _, a := range ahead {
				for _, b := range behind {
					checkParse(t, a+strings.Join(words, gap)+b, want, 0, api.OK)
				}
			}
		}
	}
	// A # within a word is part of it.
	checkRefused(t, "tri#", 0, api.ErrText)
	checkRefused(t, "tri refine# x", 4, api.ErrText)
	checkRefused(t, "tri budget 7#", 11, api.ErrText)
}

// Errors are told where their words stand, with comments and blanks ahead.
func TestOffsetsBehindComments(t *testing.T) {
	checkRefused(t, "# x\n\n  all refine # 7\n\r\n#\n\tx 1", 27, api.ErrText)
	checkRefused(t, "\u00e4", 0, api.ErrText)
	checkRefused(t, "# \u00e4\u00e4\ntri budget\t# 7\n-5", 22, api.ErrRange)
	checkRefused(t, "\n\ntri\n\nbudget\n\n\n101\n", 16, api.ErrRange)
	checkRefused(t, "\n\ntri\n\nbudget\n\n\n", 16, api.ErrText)
}

func TestTooLong(t *testing.T) {
	for _, length := range []int{api.MaxBytes + 1, api.MaxBytes + 2, 2 * api.MaxBytes} {
		for _, s := range []string{"tri\n", "x ", "", "all budget 7 refine ", "tri budget 101 ", "tri budget "} {
			checkRefused(t, s+strings.Repeat(" ", length-len(s)), 0, api.ErrLong)
			checkRefused(t, s+strings.Repeat("#", length-len(s)), 0, api.ErrLong)
			checkRefused(t, strings.Repeat("1 ", (length-len(s))/2+1)+s, 0, api.ErrLong)
			checkRefused(t, strings.Repeat("\n", length-len(s))+s, 0, api.ErrLong)
		}
	}
}

func TestAsLongAsMayBe(t *testing.T) {
	const most = api.MaxBytes
	fill := func(s, with string) string {
		return (s + strings.Repeat(with, most))[:most]
	}
	for _, o := range []api.Options{opts(1, 0, false), opts(2, 100, true), opts(3, 7, false)} {
		s := plainPrint(o)
		checkParse(t, fill(s, " "), o, 0, api.OK)
		checkParse(t, fill(s, "#"), o, 0, api.OK)
		checkParse(t, strings.Repeat("\n", most-len(s))+s, o, 0, api.OK)
		checkRefused(t, fill(s, "x"), len(s), api.ErrText)
		checkRefused(t, fill(s, "x "), len(s), api.ErrText)
	}
	checkRefused(t, fill("tri budget", " "), most, api.ErrText)
	checkRefused(t, fill("tri budget ", "#"), most, api.ErrText)
	checkRefused(t, fill("", "\n"), most, api.ErrText)
	checkRefused(t, strings.Repeat("\t", most-1)+"7", most-1, api.ErrText)
	checkRefused(t, fill("", "tri "), 4, api.ErrText)
	checkRefused(t, fill("", "tri"), 0, api.ErrText)
	checkRefused(t, fill("tri ", "refine "), 11, api.ErrText)
	checkRefused(t, fill("tri ", "budget 7 "), 13, api.ErrText)
	checkRefused(t, fill("tri budget ", "9"), 11, api.ErrRange)
	checkRefused(t, fill("tri budget -", "9"), 11, api.ErrRange)
	checkRefused(t, fill("tri budget ", "0"), 11, api.ErrText)
}

// R2: nothing of the bytes is kept, and those beyond their end count nothing.
func TestBytesChangedAfterTheCall(t *testing.T) {
	b := []byte("quad budget 77 refine budget 7")
	o, n, e := options.Parse(b[:21])
	for i := range b {
		b[i] = '9'
	}
	if o != opts(2, 77, true) || n != 0 || e != api.OK {
		t.Error(o, n, e)
	}
	for i := range b {
		b[i] = ' '
	}
	checkParse(t, "quad budget 77 refine", o, 0, api.OK)
	b = []byte("all budget 7 x 8")
	if o, n, e := options.Parse(b[:12]); o != opts(3, 7, false) || n != 0 || e != api.OK {
		t.Error(o, n, e)
	}
	if o, n, e := options.Parse(b[:10]); o != (api.Options{}) || n != 10 || e != api.ErrText {
		t.Error(o, n, e)
	}
	if string(b) != "all budget 7 x 8" {
		t.Errorf("changed to %q", b)
	}
}

// R4: what was asked ahead changes no answer.
func TestSameAgain(t *testing.T) {
	texts := []string{"tri", "all budget 7 refine", "", "quad refine", "tri budget 101", "tri budget", "x", "tri refine refine", "tri budget 7 budget 7", "refine"}
	for _, s := range texts {
		for _, other := range texts {
			checkPlain(t, s)
			checkPlain(t, other)
			checkPlain(t, s)
		}
	}
	for range 2 {
		checkValid(t, opts(3, 100, true))
		checkInvalid(t, opts(4, 100, true))
		checkMade(t, opts(1, 0, false))
	}
}

// P1: texts of words that belong there and words that do not, in any order.
func TestDrawnTexts(t *testing.T) {
	words := []string{"tri", "budget", "7", "refine", "quad", "all", "0", "100", "101", "-1", "x", "#", "\n", "# 1\n", "01", "-", "4#", "Tri", "18446744073709551623"}
	r := rand.New(rand.NewPCG(61, 1))
	for range 20000 {
		s := []string{"", "tri ", "quad\t", "all\n", "all budget 7 "}[r.IntN(5)]
		for range r.IntN(8) {
			s += words[r.IntN(min(len(words), 4+r.IntN(len(words))))] + " "
		}
		checkPlain(t, s)
	}
}

// P1: any bytes.
func TestDrawnBytes(t *testing.T) {
	r := rand.New(rand.NewPCG(61, 2))
	l := valid()
	for range 20000 {
		b := make([]byte, r.IntN(40))
		for i := range b {
			b[i] = byte(r.Uint32())
		}
		checkPlain(t, string(b))
		// One byte of a line is another one.
		b = []byte(plainPrint(l[r.IntN(len(l))]))
		b[r.IntN(len(b))] = byte(r.Uint32())
		checkPlain(t, string(b))
	}
}

// P1: any Options.
func TestDrawnOptions(t *testing.T) {
	r := rand.New(rand.NewPCG(61, 3))
	for range 20000 {
		check(t, opts(int(r.Uint64()>>r.IntN(64)), int(r.Uint64()>>r.IntN(64)), r.IntN(2) == 0))
		check(t, opts(r.IntN(5), r.IntN(110)-5, r.IntN(2) == 0))
	}
}

func FuzzParse(f *testing.F) {
	for _, s := range []string{"", "tri", "quad # x\n refine budget 0", "all budget 7 refine", "tri budget 101", "tri budget -1 x", "tri refine refine", "tri budget"} {
		f.Add([]byte(s))
	}
	f.Fuzz(func(t *testing.T, b []byte) {
		if len(b) > api.MaxBytes {
			checkRefused(t, string(b), 0, api.ErrLong)
			return
		}
		checkPlain(t, string(b))
		if o, _, e := options.Parse(bytes.Clone(b)); e == api.OK {
			checkValid(t, o)
		}
	})
}
