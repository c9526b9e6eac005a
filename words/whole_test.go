package words_test

import (
	"math"
	"math/big"
	"slices"
	"strings"
	"testing"
	"unicode/utf16"
	"unicode/utf8"

	"gimlet/words"
)

// What follows holds the calls against the document's own words, over all short texts of the pieces at which something changes.

// edgePieces: characters of all widths and at the ends of UTF-16's one unit, blanks, what looks like one, U+FFFD, and bytes that are of no character alone, some of which make one together.
func edgePieces() []string {
	return []string{"a", "b", " ", "\t", "\u00A0", "é", "\uD7FF", "\uE000", "\uFFFD", "\uFFFF", "\U00010000", "\U00010400", "\U0010FFFF", "\xFF", "\xE2", "\x82", "\xAC"}
}

// searchPieces: few, so that texts come again in one another.
func searchPieces() []string { return []string{"a", "é", "\xFF", "\uFFFD"} }

// textsOf: all texts of up to so many of these pieces.
func textsOf(pieces []string, most int) []string {
	list := []string{""}
	for from := 0; most > 0; most-- {
		for _, s := range list[from:] {
			from++
			for _, p := range pieces {
				list = append(list, s+p)
			}
		}
	}
	return list
}

// text is a text with its characters, by Go's own conversion.
type text struct {
	s    string
	list []rune
	unit []uint16
}

func read(list []string) []text {
	var out []text
	for _, s := range list {
		out = append(out, text{s, []rune(s), utf16.Encode([]rune(s))})
	}
	return out
}

// findByWords: P3.3.
func findByWords(s, t []rune) int {
	for n := 0; n+len(t) <= len(s); n++ {
		if slices.Equal(s[n:n+len(t)], t) {
			return n
		}
	}
	return -1
}

// subByWords: P3.2, the sum as a whole number.
func subByWords(s []rune, from, count int) string {
	end := new(big.Int).Add(big.NewInt(int64(from)), big.NewInt(int64(count)))
	out := ""
	for n, r := range s {
		if n >= from && big.NewInt(int64(n)).Cmp(end) < 0 {
			out += string(r)
		}
	}
	return out
}

// translateByWords: P3.7.
func translateByWords(s, from, to []rune) string {
	out := ""
	for _, r := range s {
		i := slices.Index(from, r)
		if i < 0 {
			out += string(r)
		} else if i < len(to) {
			out += string(to[i])
		}
	}
	return out
}

// squeezeByWords: P3.8.
func squeezeByWords(s []rune) string {
	isBlank := func(r rune) bool { return r == 0x20 || r == 9 || r == 0xA || r == 0xD }
	return strings.Join(strings.FieldsFunc(string(s), isBlank), " ")
}

// borderByWords: P3.10.
func borderByWords(s []rune) []int {
	var out []int
	for i := range s {
		b := i
		for !slices.Equal(s[:b], s[i+1-b:i+1]) {
			b--
		}
		out = append(out, b)
	}
	return out
}

// P3.1, P3.8, P3.9, P3.10: of one text.
func TestOneText(t *testing.T) {
	for _, x := range read(append(textsOf(edgePieces(), 4), textsOf(append(searchPieces(), " "), 7)...)) {
		if n := words.Length(x.s); n != len(x.list) {
			t.Fatalf("P3.1: Length(%q) = %d", x.s, n)
		}
		if out, want := words.Squeeze(x.s), squeezeByWords(x.list); out != want {
			t.Fatalf("P3.8: Squeeze(%q) = %q, want %q", x.s, out, want)
		}
		turned := slices.Clone(x.list)
		slices.Reverse(turned)
		if out := words.Reverse(x.s); out != string(turned) {
			t.Fatalf("P3.9: Reverse(%q) = %q, want %q", x.s, out, string(turned))
		}
		if list, want := words.Border(x.s), borderByWords(x.list); !slices.Equal(list, want) {
			t.Fatalf("P3.10: Border(%q) = %v, want %v", x.s, list, want)
		}
	}
}

// P3.10: of every text of two characters that isn't long.
func TestBorderOfTwo(t *testing.T) {
	for _, x := range read(textsOf([]string{"a", "\xFF"}, 14)) {
		if list, want := words.Border(x.s), borderByWords(x.list); !slices.Equal(list, want) {
			t.Fatalf("P3.10: Border(%q) = %v, want %v", x.s, list, want)
		}
	}
}

// P3.2: all of what from and count can be about a text's ends, and about the ends of int.
func TestSubEverywhere(t *testing.T) {
	var numbers []int
	for i := range 7 {
		numbers = append(numbers, i, -1-i, math.MinInt+i, math.MaxInt-i)
	}
	for _, x := range read(textsOf(searchPieces(), 4)) {
		for _, from := range numbers {
			for _, count := range numbers {
				if out, want := words.Sub(x.s, from, count), subByWords(x.list, from, count); out != want {
					t.Fatalf("P3.2: Sub(%q, %d, %d) = %q, want %q", x.s, from, count, out, want)
				}
			}
		}
	}
}

// checkPair: P3.3 to P3.6 of two texts.
func checkPair(t *testing.T, x, y text) {
	if n, want := words.Find(x.s, y.s), findByWords(x.list, y.list); n != want {
		t.Fatalf("P3.3: Find(%q, %q) = %d, want %d", x.s, y.s, n, want)
	}
	rest := len(x.list) - len(y.list)
	if ok, want := words.Begins(x.s, y.s), rest >= 0 && slices.Equal(x.list[:len(y.list)], y.list); ok != want {
		t.Fatalf("P3.4: Begins(%q, %q) = %v", x.s, y.s, ok)
	}
	if ok, want := words.Ends(x.s, y.s), rest >= 0 && slices.Equal(x.list[max(0, rest):], y.list); ok != want {
		t.Fatalf("P3.4: Ends(%q, %q) = %v", x.s, y.s, ok)
	}
	if n, want := words.Compare(x.s, y.s), slices.Compare(x.list, y.list); n != want {
		t.Fatalf("P3.5: Compare(%q, %q) = %d, want %d", x.s, y.s, n, want)
	}
	if n, want := words.CompareUnits(x.s, y.s), slices.Compare(x.unit, y.unit); n != want {
		t.Fatalf("P3.6: CompareUnits(%q, %q) = %d, want %d", x.s, y.s, n, want)
	}
}

// P3.3 to P3.6: of two texts of the edges' pieces, and of two that come again in one another.
func TestTwoTexts(t *testing.T) {
	edges := read(textsOf(edgePieces(), 2))
	for _, x := range edges {
		for _, y := range edges {
			checkPair(t, x, y)
		}
	}
	shorts := read(textsOf(searchPieces(), 4))
	for _, x := range read(textsOf(searchPieces(), 5)) {
		for _, y := range shorts {
			checkPair(t, x, y)
		}
	}
	shorts = read(textsOf([]string{"a", "é"}, 6))
	for _, x := range read(textsOf([]string{"a", "é"}, 10)) {
		for _, y := range shorts {
			checkPair(t, x, y)
		}
	}
}

// P3.7: of three texts.
func TestThreeTexts(t *testing.T) {
	list := read(textsOf([]string{"a", "é", "\xFF", "\uFFFD", "\U00010000"}, 3))
	for _, x := range list {
		for _, from := range list {
			for _, to := range list[:len(list)/4] {
				if out, want := words.Translate(x.s, from.s, to.s), translateByWords(x.list, from.list, to.list); out != want {
					t.Fatalf("P3.7: Translate(%q, %q, %q) = %q, want %q", x.s, from.s, to.s, out, want)
				}
			}
		}
	}
}

// 'What follows': where both texts are made of characters, Compare is the order of bytes; CompareUnits is another one just for a character above U+FFFF beside one from U+E000 to U+FFFF.
func TestOrdersThatFollow(t *testing.T) {
	var list []text
	for _, x := range read(textsOf(edgePieces(), 2)) {
		if utf8.ValidString(x.s) {
			list = append(list, x)
		}
	}
	for _, x := range list {
		for _, y := range list {
			if n, want := words.Compare(x.s, y.s), strings.Compare(x.s, y.s); n != want {
				t.Fatalf("P3.5: Compare(%q, %q) = %d, by bytes %d", x.s, y.s, n, want)
			}
			if differ, want := words.CompareUnits(x.s, y.s) != words.Compare(x.s, y.s), isOtherOrder(x.list, y.list); differ != want {
				t.Fatalf("P3.6: of %q and %q the orders differ: %v", x.s, y.s, differ)
			}
		}
	}
}

// isOtherOrder: are the first unlike characters one above U+FFFF, and one from U+E000 to U+FFFF?
func isOtherOrder(s, t []rune) bool {
	for i := range min(len(s), len(t)) {
		if low, high := min(s[i], t[i]), max(s[i], t[i]); low != high {
			return 0xE000 <= low && low <= 0xFFFF && high > 0xFFFF
		}
	}
	return false
}

// P3.5, P3.6: all characters, each beside the next one in both orders.
func TestAllCharactersRise(t *testing.T) {
	rises := func(promise string, compare func(s, t string) int, spans [][2]rune) {
		before := ""
		for _, span := range spans {
			for r := span[0]; r <= span[1]; r++ {
				s := string(r)
				if compare(before, s) != -1 || compare(s, before) != 1 || compare(s, s) != 0 {
					t.Fatalf("%s: %q isn't ahead of %q", promise, before, s)
				}
				before = s
			}
		}
	}
	rises("P3.5", words.Compare, [][2]rune{{0, 0xD7FF}, {0xE000, 0x10FFFF}})
	rises("P3.6", words.CompareUnits, [][2]rune{{0, 0xD7FF}, {0x10000, 0x10FFFF}, {0xE000, 0xFFFF}})
}

// Made of characters: what is answered as a text is, of each and every text that comes in.
func TestAnswersAreCharacters(t *testing.T) {
	for _, s := range textsOf(edgePieces(), 3) {
		for _, out := range []string{words.Sub(s, 0, 9), words.Sub(s, 1, 2), words.Translate(s, "a\xFFé", s), words.Translate(s, s, "a\xE2"), words.Squeeze(s), words.Reverse(s)} {
			if !utf8.ValidString(out) {
				t.Fatalf("of %q comes %q", s, out)
			}
		}
	}
}

// The calls keep nothing: asked forth and back, they answer the same.
func TestNothingIsKept(t *testing.T) {
	list := textsOf(edgePieces(), 2)
	answer := func(s string) string {
		out := words.Sub(s, 1, 1) + "|" + words.Translate(s, "a", s) + "|" + words.Squeeze(s) + "|" + words.Reverse(s)
		for _, n := range append(words.Border(s), words.Length(s), words.Find(s, "a"), words.Compare(s, "a"), words.CompareUnits(s, "\uE000")) {
			out += "|" + string(rune(n+1))
		}
		return out
	}
	var answers []string
	for _, s := range list {
		answers = append(answers, answer(s))
	}
	for i, s := range slices.Backward(list) {
		if answer(s) != answers[i] {
			t.Errorf("the answers of %q differ the second time", s)
		}
	}
}
