package token_test

import (
	"bytes"
	"iter"
	"math"
	"math/big"
	"math/rand/v2"
	"regexp"
	"slices"
	"strconv"
	"strings"
	"testing"

	"parquet/api"
	"parquet/token"
)

// The calls that the chapter lists, with their exact signatures: a change of one does not compile.
var (
	_ func([]byte) ([]api.Token, api.Errno) = token.All
	_ func([]byte) iter.Seq2[int, string]   = token.Words
	_ func(string, int) (int, api.Errno)    = token.Number
	_ func(...string) string                = token.Join
)

// A word of a line; the comment of a line begins with the first of its words that begins with a #.
var inLine = regexp.MustCompile(`[^ \t\r]+`)

// plainWords is the chapter's description of words told another way: line by line.
func plainWords(b []byte) []api.Token {
	var l []api.Token
	from := 0
	for _, line := range bytes.Split(b, []byte("\n")) {
		for _, span := range inLine.FindAllIndex(line, -1) {
			if line[span[0]] == '#' {
				break
			}
			l = append(l, api.Token{At: from + span[0], Text: string(line[span[0]:span[1]])})
		}
		from += len(line) + 1
	}
	return l
}

// iterated is what an iterator yields.
func iterated(words iter.Seq2[int, string]) []api.Token {
	var l []api.Token
	for at, text := range words {
		l = append(l, api.Token{At: at, Text: text})
	}
	return l
}

// checkWords holds All and Words against the words that are wanted.
func checkWords(t *testing.T, b []byte, want []api.Token) {
	t.Helper()
	got, e := token.All(b)
	if e != api.OK || !slices.Equal(got, want) {
		t.Fatalf("All(%s) = %v, %d, want %v", shown(string(b)), got, e, want)
	}
	if got := iterated(token.Words(b)); !slices.Equal(got, want) {
		t.Fatalf("Words(%s) yield %v, want %v", shown(string(b)), got, want)
	}
}

// shown is a text for a message, cut if it is long.
func shown(s string) string {
	if len(s) > 100 {
		return strconv.Quote(s[:100]) + ".."
	}
	return strconv.Quote(s)
}

// texts calls each with all texts of up to that length of these bytes.
func texts(alphabet string, length int, each func(b []byte)) {
	var grow func(b []byte)
	grow = func(b []byte) {
		each(b)
		if len(b) == length {
			return
		}
		for i := range len(alphabet) {
			grow(append(b[:len(b):len(b)], alphabet[i]))
		}
	}
	grow(nil)
}

func TestWords(t *testing.T) {
	for _, x := range []struct {
		text string
		want []api.Token
	}{
		{"a # b\n-12 c#", []api.Token{{At: 0, Text: "a"}, {At: 6, Text: "-12"}, {At: 10, Text: "c#"}}},
		{"a # b\n-12", []api.Token{{At: 0, Text: "a"}, {At: 6, Text: "-12"}}},
		{"one", []api.Token{{At: 0, Text: "one"}}},
		{" \t\r\none\r\n\ttwo ", []api.Token{{At: 4, Text: "one"}, {At: 10, Text: "two"}}},
		{"a\nb\rc\td e", []api.Token{{At: 0, Text: "a"}, {At: 2, Text: "b"}, {At: 4, Text: "c"}, {At: 6, Text: "d"}, {At: 8, Text: "e"}}},
		{"x x x", []api.Token{{At: 0, Text: "x"}, {At: 2, Text: "x"}, {At: 4, Text: "x"}}},
		// A # within a word.
		{"a#b #c", []api.Token{{At: 0, Text: "a#b"}}},
		{"a## b#\nc", []api.Token{{At: 0, Text: "a##"}, {At: 4, Text: "b#"}, {At: 7, Text: "c"}}},
		// Comments, to the line feed and no other blank.
		{"#a b\nc", []api.Token{{At: 5, Text: "c"}}},
		{"#a\rb\tc d#e#\nf", []api.Token{{At: 12, Text: "f"}}},
		{"#\n#\n#\na", []api.Token{{At: 6, Text: "a"}}},
		{"##\na", []api.Token{{At: 3, Text: "a"}}},
		{"a\t#b\r\nc\r#d\n", []api.Token{{At: 0, Text: "a"}, {At: 6, Text: "c"}}},
		// Comments that end with the bytes.
		{"a #", []api.Token{{At: 0, Text: "a"}}},
		{"a # b", []api.Token{{At: 0, Text: "a"}}},
		{"a\n# b\r", []api.Token{{At: 0, Text: "a"}}},
	} {
		checkWords(t, []byte(x.text), x.want)
	}
}

func TestNoWords(t *testing.T) {
	for _, b := range [][]byte{nil, {}} {
		checkWords(t, b, nil)
	}
	for _, s := range []string{" ", "\n", "\t\r\n ", "#", "#\n", " # a b", "# a\n\t# b\r\n#", "####", "#\r#\t# x"} {
		checkWords(t, []byte(s), nil)
	}
}

// The bytes 32, 9, 13 and 10 are blanks, and no others.
func TestBlanks(t *testing.T) {
	for c := range 256 {
		b := []byte{'a', byte(c), 'b'}
		want := []api.Token{{At: 0, Text: string(b)}}
		if c == 32 || c == 9 || c == 13 || c == 10 {
			want = []api.Token{{At: 0, Text: "a"}, {At: 2, Text: "b"}}
		}
		checkWords(t, b, want)
	}
}

// Bytes that are not ASCII belong to words as they are, whether they are UTF-8 or not.
func TestWordsOfOtherBytes(t *testing.T) {
	checkWords(t, []byte("\u00e4 \u00a0\u2003 \xff\xfe\n\xc3 \x00"), []api.Token{
		{At: 0, Text: "\u00e4"}, {At: 3, Text: "\u00a0\u2003"}, {At: 9, Text: "\xff\xfe"}, {At: 12, Text: "\xc3"}, {At: 14, Text: "\x00"},
	})
	checkWords(t, []byte("#\u00e4\xff\n\v\f"), []api.Token{{At: 5, Text: "\v\f"}})
}

func TestAllShortTexts(t *testing.T) {
	texts(" \n\r#a", 7, func(b []byte) { checkWords(t, b, plainWords(b)) })
}

func TestDrawnTexts(t *testing.T) {
	const alphabet = "  \t\r\n\n##ab0-\x00\xff\xc3\xa4"
	r := rand.New(rand.NewPCG(3, 4))
	for range 5000 {
		b := make([]byte, r.IntN(60))
		for i := range b {
			b[i] = alphabet[r.IntN(len(alphabet))]
		}
		checkWords(t, b, plainWords(b))
	}
}

// P3: an offset is where the word stands.
func TestOffsets(t *testing.T) {
	texts(" \n#a-", 6, func(b []byte) {
		l, _ := token.All(b)
		after := 0
		for _, w := range l {
			if w.At < after || string(b[w.At:w.At+len(w.Text)]) != w.Text {
				t.Fatalf("%q is not at %d of %q", w.Text, w.At, b)
			}
			after = w.At + len(w.Text) + 1
		}
	})
}

func TestLongTexts(t *testing.T) {
	last := api.MaxBytes - 1
	word := bytes.Repeat([]byte("w"), api.MaxBytes)
	checkWords(t, word, []api.Token{{At: 0, Text: string(word)}})
	blanks := bytes.Repeat([]byte(" "), api.MaxBytes)
	checkWords(t, blanks, nil)
	blanks[last] = 'x'
	checkWords(t, blanks, []api.Token{{At: last, Text: "x"}})
	many := bytes.Repeat([]byte("w\n"), api.MaxBytes/2)
	checkWords(t, many, plainWords(many))
	comment := bytes.Repeat([]byte("#"), api.MaxBytes)
	checkWords(t, comment, nil)
	comment[last-1], comment[last] = '\n', 'x'
	checkWords(t, comment, []api.Token{{At: last, Text: "x"}})
}

// One byte more than MaxBytes is too long, whatever the bytes are, and there are no words then.
func TestTooLongTexts(t *testing.T) {
	for _, length := range []int{api.MaxBytes + 1, api.MaxBytes + 2, 2 * api.MaxBytes} {
		for _, unit := range []string{"w", " ", "#", "\n", "\x00", "w "} {
			b := bytes.Repeat([]byte(unit), length/len(unit)+1)[:length]
			if l, e := token.All(b); e != api.ErrLong || len(l) != 0 {
				t.Errorf("All of %d times %q: %d words, %d, want ErrLong", length, unit, len(l), e)
			}
			for at, text := range token.Words(b) {
				t.Fatalf("Words of %d times %q: %s at %d", length, unit, shown(text), at)
			}
		}
	}
}

func TestStopEarly(t *testing.T) {
	words := token.Words([]byte("a b # c\nd e"))
	want := []api.Token{{At: 0, Text: "a"}, {At: 2, Text: "b"}, {At: 8, Text: "d"}, {At: 10, Text: "e"}}
	for most := 1; most <= len(want); most++ {
		var got []api.Token
		words(func(at int, text string) bool {
			got = append(got, api.Token{At: at, Text: text})
			return len(got) < most
		})
		if !slices.Equal(got, want[:most]) {
			t.Errorf("stopped after %d: %v", most, got)
		}
	}
}

func TestIterateAgain(t *testing.T) {
	words := token.Words([]byte("a b # c\nd"))
	want := []api.Token{{At: 0, Text: "a"}, {At: 2, Text: "b"}, {At: 8, Text: "d"}}
	for range words {
		break
	}
	for range 3 {
		if got := iterated(words); !slices.Equal(got, want) {
			t.Fatalf("again: %v", got)
		}
	}
	n := 0
	for range words { // one iteration within the other
		for range words {
			n++
		}
	}
	if n != 9 {
		t.Errorf("%d words within words", n)
	}
}

// R2: the bytes are neither changed nor kept, and each list is new memory up to its capacity.
func TestNewMemory(t *testing.T) {
	text := "a bc # d\nef"
	want := []api.Token{{At: 0, Text: "a"}, {At: 2, Text: "bc"}, {At: 9, Text: "ef"}}
	b := []byte(text)
	one, _ := token.All(b)
	two, _ := token.All(b)
	words := token.Words(b)
	early := iterated(words)
	if string(b) != text {
		t.Fatalf("changed to %q", b)
	}
	for i := range b {
		b[i] = 'z'
	}
	clear(one[:cap(one)])
	for _, got := range [][]api.Token{two, early, iterated(words)} {
		if !slices.Equal(got, want) {
			t.Errorf("%v, want %v", got, want)
		}
	}
}

func TestJoin(t *testing.T) {
	for _, x := range []struct {
		want string
		l    []string
	}{
		{"", nil},
		{"", []string{}},
		{"a\n", []string{"a"}},
		{"a b\n", []string{"a", "b"}},
		{"v -1 2#\n", []string{"v", "-1", "2#"}},
		// What is no word is joined as it is.
		{"\n", []string{""}},
		{"  \n", []string{"", "", ""}},
		{"a b # \n\n", []string{"a b", "#", "\n"}},
		{"\xff \u00e4\n", []string{"\xff", "\u00e4"}},
	} {
		if got := token.Join(x.l...); got != x.want {
			t.Errorf("Join(%q) = %q, want %q", x.l, got, x.want)
		}
	}
	if token.Join() != "" {
		t.Error("no words to join")
	}
	l := []string{"a", "b"}
	if token.Join(l...); l[0] != "a" || l[1] != "b" {
		t.Error("arguments changed", l)
	}
	many := slices.Repeat([]string{"w"}, 100000)
	if got := token.Join(many...); got != strings.Repeat("w ", 99999)+"w\n" {
		t.Error("many words", len(got))
	}
}

// P3: the words of joined words are the same words.
func TestJoinedWordsAreReadBack(t *testing.T) {
	texts(" \n#a-", 6, func(b []byte) {
		checkReadBack(t, plainWords(b))
	})
}

func checkReadBack(t *testing.T, l []api.Token) {
	t.Helper()
	var words []string
	at := 0
	want := make([]api.Token, len(l))
	for i, w := range l {
		words = append(words, w.Text)
		want[i] = api.Token{At: at, Text: w.Text}
		at += len(w.Text) + 1
	}
	joined := token.Join(words...)
	if len(joined) != at {
		t.Fatalf("%q joined is %q", words, joined)
	}
	checkWords(t, []byte(joined), want)
}

// Comments and additional blanks do not change any word.
func TestCommentsAndBlanksChangeNoWord(t *testing.T) {
	words := []string{"poly", "-12", "c#", "\xff", "0", "a##b"}
	gaps := []string{" ", "\n", "\t", "\r\n", "  \n\n", " # a comment\n", "\n#\n#x\n\t", "\r#a\r#\t\n"}
	r := rand.New(rand.NewPCG(5, 6))
	for range 2000 {
		text := gaps[r.IntN(len(gaps))]
		for _, w := range words {
			text += w + gaps[r.IntN(len(gaps))]
		}
		l, e := token.All([]byte(text))
		if e != api.OK || len(l) != len(words) {
			t.Fatalf("%q: %v, %d", text, l, e)
		}
		for i, w := range l {
			if w.Text != words[i] {
				t.Fatalf("%q: %v", text, l)
			}
		}
	}
}

func checkNumber(t *testing.T, s string, most, n int, e api.Errno) {
	t.Helper()
	if gotN, gotE := token.Number(s, most); gotN != n || gotE != e {
		t.Errorf("Number(%s, %d) = %d, %d, want %d, %d", shown(s), most, gotN, gotE, n, e)
	}
}

func TestNumber(t *testing.T) {
	const top = math.MaxInt
	for _, x := range []struct {
		s    string
		most int
		n    int
		e    api.Errno
	}{
		{"-12", 12, -12, api.OK}, {"13", 12, 0, api.ErrRange}, {"013", 99, 0, api.ErrText},
		{"0", 0, 0, api.OK}, {"0", top, 0, api.OK}, {"1", 1, 1, api.OK}, {"-1", 1, -1, api.OK}, {"1", 0, 0, api.ErrRange}, {"-1", 0, 0, api.ErrRange},
		{"12", 12, 12, api.OK}, {"-13", 12, 0, api.ErrRange}, {"10", 10, 10, api.OK}, {"10", 9, 0, api.ErrRange}, {"9", 9, 9, api.OK}, {"7", 3, 0, api.ErrRange},
		{"19", 12, 0, api.ErrRange}, {"20", 19, 0, api.ErrRange}, {"-20", 20, -20, api.OK}, {"1234567890", 1234567890, 1234567890, api.OK},
		{"1048576", api.MaxPlace, api.MaxPlace, api.OK}, {"-1048576", api.MaxPlace, -api.MaxPlace, api.OK}, {"1048577", api.MaxPlace, 0, api.ErrRange}, {"-1048577", api.MaxPlace, 0, api.ErrRange},
		{"9223372036854775807", top, top, api.OK}, {"-9223372036854775807", top, -top, api.OK},
		{"9223372036854775806", top - 1, top - 1, api.OK}, {"9223372036854775807", top - 1, 0, api.ErrRange}, {"-9223372036854775807", top - 1, 0, api.ErrRange},
		// The least int has a greater magnitude than any most.
		{"-9223372036854775808", top, 0, api.ErrRange}, {"9223372036854775808", top, 0, api.ErrRange},
		// What would wrap round into a small number.
		{"18446744073709551616", top, 0, api.ErrRange}, {"18446744073709551617", 5, 0, api.ErrRange}, {"-18446744073709551617", 5, 0, api.ErrRange}, {"92233720368547758070", top, 0, api.ErrRange},
	} {
		checkNumber(t, x.s, x.most, x.n, x.e)
	}
}

// Every number is beyond a negative most, but a text that is no number is told first (R1).
func TestNegativeMost(t *testing.T) {
	for _, most := range []int{-1, -2, -9, -10, -100, math.MinInt + 1, math.MinInt} {
		for _, s := range []string{"0", "1", "-1", "9", "10", "-100", "9223372036854775807", "-9223372036854775808", strings.Repeat("9", 1000)} {
			checkNumber(t, s, most, 0, api.ErrRange)
		}
		for _, s := range []string{"", "-", "-0", "00", "x", "-1x"} {
			checkNumber(t, s, most, 0, api.ErrText)
		}
	}
}

func TestManyDigits(t *testing.T) {
	const many = 1 << 20
	for _, most := range []int{0, 5, math.MaxInt} {
		for _, s := range []string{strings.Repeat("9", many), "1" + strings.Repeat("0", many), strings.Repeat("7", 20), "1" + strings.Repeat("0", 64)} {
			checkNumber(t, s, most, 0, api.ErrRange)
			checkNumber(t, "-"+s, most, 0, api.ErrRange)
			// However great the number is already, the last byte may still make it none.
			checkNumber(t, s+"x", most, 0, api.ErrText)
			checkNumber(t, "0"+s, most, 0, api.ErrText)
			checkNumber(t, "-0"+s, most, 0, api.ErrText)
			checkNumber(t, s+"\xff", most, 0, api.ErrText)
		}
		checkNumber(t, strings.Repeat("0", many), most, 0, api.ErrText)
	}
}

func TestNumberRefusesOtherTexts(t *testing.T) {
	for _, s := range []string{
		"", "-", "--", "--1", "-0", "-00", "00", "000", "01", "-01", "007", "+1", "+0", "+", "-+1", "+-1", " 1", "1 ", "1\n", "\t1", "1 2", "1_000", "1,0",
		"1a", "a1", "a", "-a", "0x10", "0a", "0-", "1-", "1-1", "- 1", "1e3", "1.0", ".", "0.", "/", ":", "1/", "1:", "\x00", "1\x00", "\x000",
		"\xff", "1\xff2", "\xff1", "-\xff", "1\xc3", "\u0661", "1\u0662", "\uff11", "-\uff11", "\u22121", "1\u00b2", "\ufffd", "\u0130",
	} {
		for _, most := range []int{-1, 0, 9, math.MaxInt} {
			checkNumber(t, s, most, 0, api.ErrText)
		}
	}
}

// Of each byte, alone and within digits, only digits and a leading sign make a number.
func TestNumberOfEachByte(t *testing.T) {
	for c := range 256 {
		digit := c >= '0' && c <= '9'
		for _, s := range []string{string([]byte{byte(c)}), string([]byte{'1', byte(c)}), string([]byte{'1', byte(c), '2'})} {
			want := api.ErrText
			if digit {
				want = api.OK
			}
			if _, e := token.Number(s, 999); e != want {
				t.Errorf("Number(%q): %d, want %d", s, e, want)
			}
		}
	}
}

var exact = regexp.MustCompile(`\A(0|-?[1-9][0-9]*)\z`)

// checkExact holds Number against integers without a bound.
func checkExact(t *testing.T, s string, most int) {
	t.Helper()
	if !exact.MatchString(s) {
		checkNumber(t, s, most, 0, api.ErrText)
		return
	}
	n, _ := new(big.Int).SetString(s, 10)
	if new(big.Int).Abs(n).Cmp(big.NewInt(int64(most))) > 0 {
		checkNumber(t, s, most, 0, api.ErrRange)
		return
	}
	checkNumber(t, s, most, int(n.Int64()), api.OK)
}

// P3: a number that was written is read back, up to its own magnitude and no less.
func TestNumbersAreReadBack(t *testing.T) {
	check := func(n int) {
		s := strconv.Itoa(n)
		magnitude := max(n, -n)
		checkNumber(t, s, magnitude, n, api.OK)
		checkNumber(t, s, math.MaxInt, n, api.OK)
		checkNumber(t, s, magnitude-1, 0, api.ErrRange)
	}
	for n := -2000; n <= 2000; n++ {
		check(n)
	}
	r := rand.New(rand.NewPCG(7, 8))
	for range 20000 {
		n := int(r.Uint64()>>1) >> r.IntN(63)
		check(n)
		check(-n)
	}
}

func TestNumbersAtTheBorder(t *testing.T) {
	for most := -3; most <= 130; most++ {
		for n := -150; n <= 150; n++ {
			checkExact(t, strconv.Itoa(n), most)
		}
	}
	for step := -25; step <= 25; step++ {
		for _, border := range []string{"9223372036854775807", "18446744073709551616", "922337203685477580", "92233720368547758070", "4294967296"} {
			n, _ := new(big.Int).SetString(border, 10)
			n.Add(n, big.NewInt(int64(step)))
			for _, most := range []int{math.MaxInt, math.MaxInt - 1, math.MaxInt - 9, math.MaxInt / 10, 1 << 32, 0} {
				checkExact(t, n.String(), most)
				checkExact(t, "-"+n.String(), most)
			}
		}
	}
	texts("-019a", 5, func(b []byte) {
		for _, most := range []int{-1, 0, 9, 10, 99, 100, 1 << 40} {
			checkExact(t, string(b), most)
		}
	})
}

// P1: no call panics, whatever it is given, and each answers the same again (R4).
func TestAnyInput(t *testing.T) {
	r := rand.New(rand.NewPCG(9, 10))
	for range 5000 {
		b := make([]byte, r.IntN(40))
		for i := range b {
			b[i] = byte(r.Uint32())
		}
		one, e := token.All(b)
		token.Number(string(b), int(r.Uint64()))
		token.Join(string(b), "")
		two, f := token.All(b)
		if e != f || !slices.Equal(one, two) {
			t.Fatalf("another answer the second time for %q", b)
		}
	}
}

func FuzzWords(f *testing.F) {
	for _, s := range []string{"", "a # b\n-12 c#", "#", "a#b\r#c\n\td", "\xff \u00a0"} {
		f.Add([]byte(s))
	}
	f.Fuzz(func(t *testing.T, b []byte) {
		if len(b) >= api.MaxBytes { // joined, its words may have one byte more
			return
		}
		l := plainWords(b)
		checkWords(t, b, l)
		checkReadBack(t, l)
	})
}

func FuzzNumber(f *testing.F) {
	for _, s := range []string{"", "0", "-0", "-12", "013", "9223372036854775807", "-9223372036854775808", "1\xff"} {
		f.Add(s, 12)
		f.Add(s, math.MaxInt)
	}
	f.Fuzz(func(t *testing.T, s string, most int) { checkExact(t, s, most) })
}
