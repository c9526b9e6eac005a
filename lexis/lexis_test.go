package lexis_test

import (
	"errors"
	"math"
	"slices"
	"strconv"
	"strings"
	"testing"
	"time"
	"unicode/utf8"

	"gimlet/api"
	"gimlet/chars"
	"gimlet/lexis"
)

func name(s string) api.Word { return api.Word{Kind: api.WordName, Text: s} }

func text(s string) api.Word { return api.Word{Kind: api.WordText, Text: s} }

func number(n int) api.Word { return api.Word{Kind: api.WordNumber, Number: n} }

func sign(s string) api.Word { return api.Word{Kind: api.WordSign, Text: s} }

// allSigns: as the chapter lists them.
func allSigns() []string {
	return []string{"/", "//", "[", "]", "(", ")", "::", "@", ".", "*", ",", "=", "!=", "<", ">"}
}

// firstLine: a place on the first line, all ahead of it having one byte each.
func firstLine(at int) api.Place { return api.Place{Byte: at, Rune: at, Line: 1, Column: at + 1} }

// short: what can be told of a text that may be very long.
func short(s string) string {
	if len(s) < 80 {
		return s
	}
	return s[:30] + " .. " + s[len(s)-30:]
}

// unplaced: the words without their places.
func unplaced(words []api.Word) []api.Word {
	list := slices.Clone(words)
	for i := range list {
		list[i].At = api.Place{}
	}
	return list
}

// needWords: P10.1, the words of q but for their places; answers them with these.
func needWords(t *testing.T, q string, want ...api.Word) []api.Word {
	t.Helper()
	got, err := lexis.Words([]byte(q))
	if err != nil || !slices.Equal(unplaced(got), want) {
		t.Errorf("P10.1: Words(%q) = %v, %v, want %v", short(q), got[:min(len(got), 20)], err, want[:min(len(want), 20)])
		return nil
	}
	return got
}

// needPlaced: P10.1, the words of q at these bytes, where all of q is of one byte each and without line ends.
func needPlaced(t *testing.T, q string, at []int, want ...api.Word) {
	t.Helper()
	got := needWords(t, q, want...)
	for i, w := range got {
		if w.At != firstLine(at[i]) {
			t.Errorf("P10.1: Words(%q): word %d at %v, want %v", q, i, w.At, firstLine(at[i]))
		}
	}
}

// needFault: P10.1, that fault of q at that place, and nothing beside it.
func needFault(t *testing.T, q string, why api.Errno, at api.Place) {
	t.Helper()
	got, err := lexis.Words([]byte(q))
	var f *api.Fault
	if !errors.As(err, &f) || len(got) != 0 {
		t.Errorf("P10.1: Words(%q) = %v, %v, want a fault", short(q), got, err)
		return
	}
	if *f != (api.Fault{At: at, Why: why}) || !errors.Is(err, why) || !errors.Is(err, api.ErrQuery) {
		t.Errorf("P10.1: Words(%q): %d at %v, want %d at %v", short(q), f.Why, f.At, why, at)
	}
}

func TestExamples(t *testing.T) {
	needPlaced(t, `//a[@x-1="y"]`, []int{0, 2, 3, 4, 5, 8, 9, 12}, sign("//"), name("a"), sign("["), sign("@"), name("x-1"), sign("="), text("y"), sign("]"))
	needPlaced(t, "a.b . .c", []int{0, 4, 6, 7}, name("a.b"), sign("."), sign("."), name("c"))
	needPlaced(t, "child::*/text()", []int{0, 5, 7, 8, 9, 13, 14}, name("child"), sign("::"), sign("*"), sign("/"), name("text"), sign("("), sign(")"))
	needPlaced(t, "string-length(.)>007", []int{0, 13, 14, 15, 16, 17}, name("string-length"), sign("("), sign("."), sign(")"), sign(">"), number(7))
	needPlaced(t, "///", []int{0, 2}, sign("//"), sign("/"))
	needPlaced(t, "3 a", []int{0, 2}, number(3), name("a"))
	needWords(t, "")
	needWords(t, " \t\n\r ")
	needFault(t, "a[b='x]", api.ErrWord, firstLine(4))
	needFault(t, "a:b", api.ErrWord, firstLine(1))
	needFault(t, "a!b", api.ErrWord, firstLine(1))
	needFault(t, "a+b", api.ErrWord, firstLine(1))
	needFault(t, "-a", api.ErrWord, firstLine(0))
	needFault(t, "3a", api.ErrWord, firstLine(1))
	needFault(t, "1000001", api.ErrWord, firstLine(0))
	needFault(t, "a\xFF", api.ErrBytes, firstLine(1))
	needFault(t, "a\xE2\x82", api.ErrBytes, firstLine(3))
	got := needWords(t, `é='"'`, name("é"), sign("="), text(`"`))
	want := []api.Place{{Byte: 0, Rune: 0, Line: 1, Column: 1}, {Byte: 2, Rune: 1, Line: 1, Column: 2}, {Byte: 3, Rune: 2, Line: 1, Column: 3}}
	for i, w := range got {
		if w.At != want[i] {
			t.Errorf("P10.1: word %d of é='\"' at %v, want %v", i, w.At, want[i])
		}
	}
	if s := lexis.Print([]api.Word{sign("//"), name("a"), text("x"), number(5)}); s != `// a "x" 5` {
		t.Errorf("P10.2: %q", s)
	}
	// DOC.md's ninth example of the whole; its bytes of ü count.
	needFault(t, "//a[b='ü]", api.ErrWord, firstLine(6))
}

func TestQueryOfNothing(t *testing.T) {
	for _, q := range [][]byte{nil, {}} {
		if got, err := lexis.Words(q); len(got) != 0 || err != nil {
			t.Errorf("P10.1: Words of nothing: %v, %v", got, err)
		}
	}
}

// slashes: the words of so many / behind one another.
func slashes(n int) []api.Word {
	list := slices.Repeat([]api.Word{sign("//")}, n/2)
	if n%2 == 1 {
		list = append(list, sign("/"))
	}
	return list
}

func TestSigns(t *testing.T) {
	for _, a := range allSigns() {
		needPlaced(t, a, []int{0}, sign(a))
		needPlaced(t, "\t"+a+" ", []int{1}, sign(a))
		needPlaced(t, "a "+a+"b", []int{0, 2, 2 + len(a)}, name("a"), sign(a), name("b"))
		needPlaced(t, "7"+a+"7", []int{0, 1, 1 + len(a)}, number(7), sign(a), number(7))
		needPlaced(t, "''"+a+`""`, []int{0, 2, 2 + len(a)}, text(""), sign(a), text(""))
		for _, b := range allSigns() {
			needPlaced(t, a+" "+b, []int{0, len(a) + 1}, sign(a), sign(b))
			if a[0] == '/' && b[0] == '/' {
				needWords(t, a+b, slashes(len(a+b))...)
			} else {
				needPlaced(t, a+b, []int{0, len(a)}, sign(a), sign(b))
			}
		}
	}
	for n := range 40 {
		for i, w := range needWords(t, strings.Repeat("/", n), slashes(n)...) {
			if w.At != firstLine(2*i) {
				t.Errorf("P10.1: / %d times: word %d at %v", n, i, w.At)
			}
		}
	}
	needPlaced(t, "/ / //", []int{0, 2, 4}, sign("/"), sign("/"), sign("//"))
	needPlaced(t, "::::", []int{0, 2}, sign("::"), sign("::"))
	needPlaced(t, "!=!=", []int{0, 2}, sign("!="), sign("!="))
	needPlaced(t, "==", []int{0, 1}, sign("="), sign("="))
	needPlaced(t, "<=>=", []int{0, 1, 2, 3}, sign("<"), sign("="), sign(">"), sign("="))
	needPlaced(t, "...", []int{0, 1, 2}, sign("."), sign("."), sign("."))
	needPlaced(t, "**", []int{0, 1}, sign("*"), sign("*"))
}

// A sign needs all its characters: a single : or ! is a fault at its own place, whatever follows.
func TestHalfSigns(t *testing.T) {
	for _, half := range []string{":", "!"} {
		for _, front := range []string{"", " ", "a", "a ", "''", "::", "!=", "//", "7", "(", ")"} {
			needFault(t, front+half, api.ErrWord, firstLine(len(front)))
			for _, behind := range []string{" ", "a", "7", "-", ".", "\"x\"", "'", "/", "(", "*", "é", "\n", "+", " :", " =", "\t:", "\n="} {
				needFault(t, front+half+behind, api.ErrWord, firstLine(len(front)))
			}
		}
	}
	needFault(t, ":=", api.ErrWord, firstLine(0))
	needFault(t, ":!=", api.ErrWord, firstLine(0))
	needFault(t, "!:", api.ErrWord, firstLine(0))
	needFault(t, "!::", api.ErrWord, firstLine(0))
	needFault(t, "!!=", api.ErrWord, firstLine(0))
	needFault(t, ":::", api.ErrWord, firstLine(2))
	needFault(t, "a:::b", api.ErrWord, firstLine(3))
	needFault(t, "!=!", api.ErrWord, firstLine(2))
	needFault(t, "a::b:c", api.ErrWord, firstLine(4))
}

func TestNames(t *testing.T) {
	for _, s := range []string{
		"a", "Z", "_", "é", "ü", "À", "λ", "名", "\U00010000", "\U000EFFFF", "\uFFFD", "\u200C", "\uF900", "\uFEFF",
		"ab", "a-b", "a.b", "a-", "a.", "a--", "a..", "a.-.-", "a0", "a0123456789", "_1", "a-1.5", "x-1", "a\u00B7", "a\u0300\u036F", "a\u203F\u2040", "é\u00B7-.9",
		"and", "or", "not", "text", "node", "string-length", "starts-with", "descendant-or-self", "名前", "aé\U00010000b", "٣", "a٣",
		strings.Repeat("a", 100000), strings.Repeat("é-.7", 20000), strings.Repeat("\U0001F600", 5000),
	} {
		needWords(t, s, name(s))
		needWords(t, " "+s+"\n", name(s))
		needWords(t, s+" "+s, name(s), name(s))
		needWords(t, "/"+s+"/", sign("/"), name(s), sign("/"))
		needWords(t, s+"'"+s+"'"+s, name(s), text(s), name(s))
		needWords(t, "@"+s+"=0", sign("@"), name(s), sign("="), number(0))
	}
	needWords(t, "a .b", name("a"), sign("."), name("b"))
	needWords(t, ".a.", sign("."), name("a."))
	needWords(t, "a/..", name("a"), sign("/"), sign("."), sign("."))
	needWords(t, "a 1", name("a"), number(1))
	needWords(t, "a1 1", name("a1"), number(1))
	needWords(t, "a*b", name("a"), sign("*"), name("b"))
	for _, s := range []string{"-", "-a", "--", "\u00B7", "\u00B7a", "\u0300", "\u203Fa", "\u2040"} {
		needFault(t, s, api.ErrWord, firstLine(0))
		needFault(t, "a "+s, api.ErrWord, firstLine(2))
		needFault(t, "("+s+")", api.ErrWord, firstLine(1))
	}
}

// wordOf: the word that a character alone is, by the chapter; false where it is none.
func wordOf(r rune) (api.Word, bool) {
	switch s := string(r); {
	case chars.Is(api.NameStart, r):
		return name(s), true
	case chars.Is(api.Digit, r):
		return number(int(r - '0')), true
	case slices.Contains(allSigns(), s):
		return sign(s), true
	}
	return api.Word{}, false
}

// Each character there is: alone, behind a name, behind a number, in a text.
func TestEachCharacter(t *testing.T) {
	for r := rune(0); r <= utf8.MaxRune; r++ {
		if !utf8.ValidRune(r) {
			continue
		}
		s := string(r)
		word, ok := wordOf(r)
		inName, blank := chars.Is(api.NameRest, r), chars.Is(api.Blank, r)
		switch {
		case blank:
			needWords(t, s)
			needWords(t, "a"+s+"3", name("a"), number(3))
			needWords(t, "3"+s+"a", number(3), name("a"))
		case ok && word.Kind == api.WordName:
			needWords(t, s, word)
			needFault(t, "3"+s, api.ErrWord, firstLine(1))
		case ok:
			needWords(t, s, word)
		default:
			needFault(t, s, api.ErrWord, firstLine(0))
			needFault(t, "3"+s, api.ErrWord, firstLine(1))
		}
		switch {
		case inName:
			needWords(t, "a"+s, name("a"+s))
		case ok:
			needWords(t, "a"+s, name("a"), word)
		case !blank:
			needFault(t, "a"+s, api.ErrWord, firstLine(1))
		}
		needTexts(t, s)
		if t.Failed() {
			t.Fatalf("at %U", r)
		}
	}
}

// needTexts: s in quotes that it doesn't hold.
func needTexts(t *testing.T, s string) {
	t.Helper()
	if !strings.Contains(s, `"`) {
		needWords(t, `"`+s+`"`, text(s))
	}
	if !strings.Contains(s, "'") {
		needWords(t, "'"+s+"'", text(s))
	}
}

func TestNumbers(t *testing.T) {
	noughts := []string{"", "0", "00", "00000000", strings.Repeat("0", 100000)}
	for _, n := range []int{0, 1, 7, 9, 10, 42, 99999, 100000, 900000, 999999, api.MaxNumber} {
		for _, front := range noughts {
			s := front + strconv.Itoa(n)
			needWords(t, s, number(n))
			needWords(t, s+" "+s, number(n), number(n))
			needWords(t, s+"."+s+" ", number(n), sign("."), number(n))
			needWords(t, "="+s+"]", sign("="), number(n), sign("]"))
			needWords(t, s+"'"+s+"'", number(n), text(s))
		}
	}
	tooGreat := []string{
		"1000001", "1000002", "1000010", "1100000", "2000000", "9999999", "10000000", "10000001", "2147483647", "2147483648", "4294967296", "4294967301",
		"9223372036854775807", "9223372036854775808", "18446744073709551615", "18446744073709551616", "18446744073709551621", "1" + strings.Repeat("0", 100000), strings.Repeat("9", 100000), "5" + strings.Repeat("7", 19),
	}
	for _, s := range tooGreat {
		for _, front := range noughts {
			needFault(t, front+s, api.ErrWord, firstLine(0))
			needFault(t, "a> "+front+s, api.ErrWord, firstLine(3))
			// What stands behind it is further to the right.
			for _, behind := range []string{" ", "a", "é", "+", "'", "-", "]"} {
				needFault(t, front+s+behind, api.ErrWord, firstLine(0))
			}
		}
	}
	needFault(t, " 00001000001a", api.ErrWord, firstLine(1))
	for n := api.MaxNumber - 50; n < api.MaxNumber+50; n++ {
		if n <= api.MaxNumber {
			needWords(t, strconv.Itoa(n), number(n))
		} else {
			needFault(t, strconv.Itoa(n), api.ErrWord, firstLine(0))
		}
	}
}

func TestNamesRightBehindNumbers(t *testing.T) {
	for _, digits := range []string{"0", "3", "007", "1000000", strings.Repeat("0", 5000)} {
		for _, s := range []string{"a", "_", "é", "名", "\U00010000", "e5", "x1F", "a'", "\uFFFD", "٣"} {
			needFault(t, digits+s, api.ErrWord, firstLine(len(digits)))
			needFault(t, "/"+digits+s, api.ErrWord, firstLine(1+len(digits)))
		}
		// What only goes on in names begins no word either.
		for _, s := range []string{"-", "-a", "\u00B7", "\u0300"} {
			needFault(t, digits+s, api.ErrWord, firstLine(len(digits)))
		}
		for _, blank := range []string{" ", "\t", "\n", "\r"} {
			value, _ := strconv.Atoi(digits)
			needWords(t, digits+blank+"a", number(value), name("a"))
		}
	}
}

func TestTexts(t *testing.T) {
	for _, s := range []string{
		"", "y", " ", "  x  ", "a b", "é", "//a[b]", "3a", ":", "!", "+-", "1000001", "\n", "\r\n", "\t", "&amp;", "\\", "\\n",
		"\x00", "\x01\x0B\x1F", "\uFFFE", "\uFFFF", "\uFFFD", "\x7F", "\U0010FFFF", "\U0001F600", "\u2028", "a\x00b",
		"'", "''", "it's", "'x'", "\"", "\"\"", "say \"x\"",
		strings.Repeat("é", 100000), strings.Repeat("'", 1000), strings.Repeat("\"", 1000),
	} {
		needTexts(t, s)
	}
	needPlaced(t, `''""''`, []int{0, 2, 4}, text(""), text(""), text(""))
	needPlaced(t, `"a"'b'`, []int{0, 3}, text("a"), text("b"))
	needPlaced(t, `a'b'c"d"3`, []int{0, 1, 4, 5, 8}, name("a"), text("b"), name("c"), text("d"), number(3))
	needPlaced(t, `"'"'"'`, []int{0, 3}, text("'"), text(`"`))
	needPlaced(t, `"''""'"`, []int{0, 4}, text("''"), text("'"))
	// What is wrong outside of a text is no fault in it, and the other way about.
	needPlaced(t, `'+' "1000001" '3a'`, []int{0, 4, 14}, text("+"), text("1000001"), text("3a"))
	for _, quote := range []string{"'", "\""} {
		for _, rest := range []string{"", " ", "x", "x y]", "é", "\n", "1000001", "3a", ":", "+", "\x00"} {
			for _, front := range []string{"", " ", "a", "a[b=", "7", quote + quote, quote + "x" + quote} {
				needFault(t, front+quote+rest, api.ErrWord, firstLine(len(front)))
			}
		}
	}
	// The other quote closes nothing; of several faults the first from the left is told.
	needFault(t, `'x"`, api.ErrWord, firstLine(0))
	needFault(t, `"x'`, api.ErrWord, firstLine(0))
	needFault(t, `"x'y'`, api.ErrWord, firstLine(0))
	needFault(t, `'x''`, api.ErrWord, firstLine(3))
	needFault(t, `''"`, api.ErrWord, firstLine(2))
	needFault(t, `+'x`, api.ErrWord, firstLine(0))
	needFault(t, `'x' + 'y`, api.ErrWord, firstLine(4))
}

func TestBlanks(t *testing.T) {
	blanks := []string{" ", "\t", "\n", "\r", "\r\n", " \t\n\r ", strings.Repeat(" ", 100000), strings.Repeat("\n\r\t", 1000)}
	for _, b := range blanks {
		needWords(t, b)
		needWords(t, b+"a", name("a"))
		needWords(t, "a"+b, name("a"))
		needWords(t, b+"a"+b+"3"+b+"'x'"+b+"/"+b+"/"+b, name("a"), number(3), text("x"), sign("/"), sign("/"))
		needWords(t, "3"+b+"4", number(3), number(4))
		// A text's blanks are the text's.
		needWords(t, "'"+b+"'", text(b))
	}
	for _, s := range []string{"\v", "\f", "\x00", "\x1F", "\x7F", "\u0085", "\u00A0", "\u2003", "\u2028", "\u3000"} {
		needFault(t, s, api.ErrWord, firstLine(0))
		needFault(t, "a "+s, api.ErrWord, firstLine(2))
	}
}

// wrongs: bytes that are no character wherever they stand, with how many of them can still go on (Good).
func wrongs() map[string]int {
	return map[string]int{
		"\xFF": 0, "\x80": 0, "\xC0\x80": 0, "\xC1\xBF": 0, "\xF5\x80\x80\x80": 0, "\xE0\x80": 1, "\xED\xA0\x80": 1, "\xF4\x90\x80\x80": 1, "\xF0\x80": 1, "\xC3(": 1, "\xE2\x82(": 2, "\xF0\x9F\x98(": 3,
	}
}

func TestWrongBytes(t *testing.T) {
	fronts := []string{"", "a", "a b", "'", "''", "'x", "\"", "3", "3a", "+", ":", "1000001", "//a[b='", "a[b='x']", "\t", " ", "(((", "-"}
	for wrong, n := range wrongs() {
		for _, front := range fronts {
			for _, behind := range []string{"", "'", "\"", "a", " ", "+", "\xFF", "é", "\x00"} {
				needFault(t, front+wrong+behind, api.ErrBytes, firstLine(len(front)+n))
			}
		}
	}
	// Where the bytes end within a character, the place is that behind all of them: each counts as one.
	for _, end := range []string{"\xC3", "\xE2", "\xE2\x82", "\xF0", "\xF0\x9F", "\xF0\x9F\x98", "\xF4\x8F", "\xE0\xA0"} {
		for _, front := range fronts {
			needFault(t, front+end, api.ErrBytes, firstLine(len(front)+len(end)))
		}
	}
	// U+FFFD that is written out is a character, and a name.
	needWords(t, "\xEF\xBF\xBD", name("\uFFFD"))
	needFault(t, "\xEF\xBF\xBD\xFF", api.ErrBytes, api.Place{Byte: 3, Rune: 1, Line: 1, Column: 2})
	needFault(t, "é\n'\xE2\x82", api.ErrBytes, api.Place{Byte: 6, Rune: 5, Line: 2, Column: 4})
	needFault(t, "é\r\xE2\x82(\n", api.ErrBytes, api.Place{Byte: 5, Rune: 4, Line: 2, Column: 3})
	needFault(t, strings.Repeat("é\n", 50000)+"\xFF", api.ErrBytes, api.Place{Byte: 150000, Rune: 100000, Line: 50001, Column: 1})
}

func TestPlaces(t *testing.T) {
	for _, c := range []struct {
		q  string
		at []api.Place
	}{
		{"a\nb", []api.Place{{Byte: 0, Rune: 0, Line: 1, Column: 1}, {Byte: 2, Rune: 2, Line: 2, Column: 1}}},
		{"a\rb", []api.Place{{Byte: 0, Rune: 0, Line: 1, Column: 1}, {Byte: 2, Rune: 2, Line: 2, Column: 1}}},
		{"a\r\nb", []api.Place{{Byte: 0, Rune: 0, Line: 1, Column: 1}, {Byte: 3, Rune: 3, Line: 2, Column: 1}}},
		{"a\n\rb", []api.Place{{Byte: 0, Rune: 0, Line: 1, Column: 1}, {Byte: 3, Rune: 3, Line: 3, Column: 1}}},
		{"\r\r\n\n .", []api.Place{{Byte: 5, Rune: 5, Line: 4, Column: 2}}},
		{"'\n'.", []api.Place{{Byte: 0, Rune: 0, Line: 1, Column: 1}, {Byte: 3, Rune: 3, Line: 2, Column: 2}}},
		{"'x\r'.", []api.Place{{Byte: 0, Rune: 0, Line: 1, Column: 1}, {Byte: 4, Rune: 4, Line: 2, Column: 2}}},
		{"'\r\n\r'\n.", []api.Place{{Byte: 0, Rune: 0, Line: 1, Column: 1}, {Byte: 6, Rune: 6, Line: 4, Column: 1}}},
		{"é 'é\né'é", []api.Place{{Byte: 0, Rune: 0, Line: 1, Column: 1}, {Byte: 3, Rune: 2, Line: 1, Column: 3}, {Byte: 10, Rune: 7, Line: 2, Column: 3}}},
		{"\U00010000.\U00010000", []api.Place{{Byte: 0, Rune: 0, Line: 1, Column: 1}}},
		{"\t\U00010000/.", []api.Place{{Byte: 1, Rune: 1, Line: 1, Column: 2}, {Byte: 5, Rune: 2, Line: 1, Column: 3}, {Byte: 6, Rune: 3, Line: 1, Column: 4}}},
		{"'\x00\u2028\v'.", []api.Place{{Byte: 0, Rune: 0, Line: 1, Column: 1}, {Byte: 7, Rune: 5, Line: 1, Column: 6}}},
	} {
		got, err := lexis.Words([]byte(c.q))
		var at []api.Place
		for _, w := range got {
			at = append(at, w.At)
		}
		if err != nil || !slices.Equal(at, c.at) {
			t.Errorf("P10.1: Words(%q) at %v, %v, want %v", c.q, at, err, c.at)
		}
	}
	needFault(t, "é\n'\r\n' é+", api.ErrWord, api.Place{Byte: 10, Rune: 8, Line: 3, Column: 4})
	needFault(t, "'\n'\r:", api.ErrWord, api.Place{Byte: 4, Rune: 4, Line: 3, Column: 1})
	needFault(t, "é\r\n'\n", api.ErrWord, api.Place{Byte: 4, Rune: 3, Line: 2, Column: 1})
	needFault(t, "é\r 1000001", api.ErrWord, api.Place{Byte: 4, Rune: 3, Line: 2, Column: 2})
	needFault(t, "é\n3é", api.ErrWord, api.Place{Byte: 4, Rune: 3, Line: 2, Column: 2})
}

// needPrint: P10.2.
func needPrint(t *testing.T, want string, words ...api.Word) {
	t.Helper()
	if got := lexis.Print(words); got != want {
		t.Errorf("P10.2: Print(%v) = %q, want %q", words, got, want)
	}
}

func TestPrint(t *testing.T) {
	needPrint(t, "")
	needPrint(t, "a", name("a"))
	needPrint(t, "a b", name("a"), name("b"))
	needPrint(t, "// /", sign("//"), sign("/"))
	for _, s := range allSigns() {
		needPrint(t, s, sign(s))
	}
	// Numbers, whatever their Text.
	for n, want := range map[int]string{0: "0", 7: "7", -1: "-1", -5: "-5", api.MaxNumber: "1000000", api.MaxNumber + 1: "1000001", math.MaxInt32: "2147483647", math.MinInt32: "-2147483648", math.MaxInt: strconv.Itoa(math.MaxInt), math.MinInt: strconv.Itoa(math.MinInt)} {
		needPrint(t, want, number(n))
		needPrint(t, want, api.Word{Kind: api.WordNumber, Number: n, Text: "x"})
	}
	// Texts, whatever their Number.
	for s, want := range map[string]string{
		"": `""`, "x": `"x"`, "'": `"'"`, "it's": `"it's"`, `"`: `'"'`, `""`: `'""'`, `a"b`: `'a"b'`, `"'`: `'"''`, `'"`: `''"'`, "\n": "\"\n\"", "\x00\xFF": "\"\x00\xFF\"", "\xFF\"": "'\xFF\"'", "é \uFFFD": "\"é \uFFFD\"", `\`: `"\"`,
	} {
		needPrint(t, want, text(s))
		needPrint(t, want, api.Word{Kind: api.WordText, Text: s, Number: 9, At: firstLine(4)})
		needPrint(t, ". "+want+" .", sign("."), text(s), sign("."))
	}
	// Names, signs and words of any other kind are their Text, whatever that is.
	for _, kind := range []api.WordKind{api.WordName, api.WordSign, 4, 9, -1, 256, math.MaxInt, math.MinInt} {
		for _, s := range []string{"", "a", "a b", "'", `"`, "//", "?", "\xFF\x00", "\n", "é", "7"} {
			w := api.Word{Kind: kind, Text: s, Number: -3, At: firstLine(8)}
			needPrint(t, s, w)
			needPrint(t, s+" "+s, w, w)
			needPrint(t, "1 "+s+" 2", number(1), w, number(2))
		}
	}
	needPrint(t, "  ", name(""), name(""), name(""))
	needPrint(t, `// a "x" '"' 5 -5 ?`, sign("//"), name("a"), text("x"), text(`"`), number(5), number(-5), api.Word{Kind: 9, Text: "?"})
}

// P10.4: nothing of the query is changed, nor the room behind it, and what was answered stays when it is written over.
func TestWhatIsHandedIn(t *testing.T) {
	for _, q := range []string{`//é[@x-1="y"]/b != 'é"' 007`, "\n\r'\r\n' a", "a+", "a\xFF", "'x", "3a", "1000001", ""} {
		room := []byte(q + "::*spare")
		given := room[:len(q)]
		first, err := lexis.Words(given)
		if string(room) != q+"::*spare" {
			t.Errorf("P10.4: Words(%q) changed it: %q", q, room)
		}
		fresh, freshErr := lexis.Words([]byte(q))
		for i := range room {
			room[i] = '#'
		}
		lexis.Words(room)
		if !slices.Equal(first, fresh) || (err == nil) != (freshErr == nil) || err != nil && err.Error() != freshErr.Error() {
			t.Errorf("P10.4: Words(%q) changed behind the call: %v, %v", q, first, err)
		}
	}
}

func TestAnswersAreNew(t *testing.T) {
	q := []byte("a/b")
	first, _ := lexis.Words(q)
	second, _ := lexis.Words(q)
	for i := range first[:cap(first)] {
		first[:cap(first)][i] = api.Word{Kind: 9, Text: "x"}
	}
	if third, _ := lexis.Words(q); !slices.Equal(second, third) || lexis.Print(third) != "a / b" {
		t.Errorf("P10.4: Words(%q) = %v, then %v", q, second, third)
	}
	_, err := lexis.Words([]byte("+"))
	var f *api.Fault
	if !errors.As(err, &f) {
		t.Fatal(err)
	}
	*f = api.Fault{}
	needFault(t, "+", api.ErrWord, firstLine(0))
}

func TestPrintChangesNothing(t *testing.T) {
	room := []api.Word{sign("//"), name("a"), text(`"`), number(-5), {Kind: 9, Text: "?", At: firstLine(3)}, name("spare")}
	before := slices.Clone(room)
	printed := lexis.Print(room[:5])
	if !slices.Equal(room, before) {
		t.Errorf("P10.4: Print changed what it was given: %v", room)
	}
	clear(room)
	if printed != `// a '"' -5 ?` {
		t.Errorf("P10.4: Print's answer changed: %q", printed)
	}
}

// The words of a long query are found in one walk: were each place counted from the beginning on, this would take hours.
func TestLongQueries(t *testing.T) {
	start := time.Now()
	const count = 1 << 20
	for _, piece := range []string{"/ ", "\n.", "é ", "'\r\n'", "7 ", "(", "a=''\n"} {
		one, _ := lexis.Words([]byte(piece))
		q := strings.Repeat(piece, count)
		got, err := lexis.Words([]byte(q))
		if err != nil || len(got) != count*len(one) {
			t.Fatalf("P10.1: Words(%q): %d words, %v", short(q), len(got), err)
		}
		if at := got[len(got)-len(one)].At.Byte; at != (count-1)*len(piece)+one[0].At.Byte {
			t.Errorf("P10.1: Words(%q): the last piece at byte %d", short(q), at)
		}
	}
	if took := time.Since(start); took > time.Minute {
		t.Errorf("long queries took %v", took)
	}
}
