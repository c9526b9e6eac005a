package words_test

import (
	"math"
	"slices"
	"strings"
	"testing"
	"time"
	"unsafe"

	"gimlet/words"
)

// P3.1: the chapter's examples, and what is no character.
func TestLengthExamples(t *testing.T) {
	for _, c := range []struct {
		s    string
		want int
	}{
		{"", 0}, {"aé\U0001F600", 3}, {"a\xFFb", 3}, {"\xE2\x82", 2},
		{"\uFFFD", 1}, {"\xEF\xBF", 2}, {"\xEF\xBF\xBD\xBD", 2}, {"\xED\xA0\x80", 3}, {"\xC0\x80", 2}, {"\xF4\x90\x80\x80", 4},
		{"\x00\n\r\n", 4}, {"e\u0301", 2}, {"\xE2\x82\xE2\x82\xAC", 3}, {"\U0010FFFF", 1},
	} {
		if n := words.Length(c.s); n != c.want {
			t.Errorf("P3.1: Length(%q) = %d", c.s, n)
		}
	}
}

// P3.2: the chapter's examples, and the least and the greatest ints.
func TestSubExamples(t *testing.T) {
	const least, most = math.MinInt, math.MaxInt
	for _, c := range []struct {
		s           string
		from, count int
		want        string
	}{
		{"aéb", 1, 1, "é"}, {"aéb", -1, 2, "a"}, {"aéb", 2, 99, "b"}, {"aéb", 0, -1, ""}, {"a\xFFb", 1, 1, "\uFFFD"},
		{"aéb", 0, 3, "aéb"}, {"aéb", 0, 0, ""}, {"aéb", 1, 0, ""}, {"aéb", 3, 1, ""}, {"aéb", -3, 3, ""}, {"aéb", -3, 4, "a"}, {"aéb", -3, 7, "aéb"}, {"aéb", -1, -1, ""},
		{"aéb", least, most, ""}, {"aéb", least + 1, most, ""}, {"aéb", least + 2, most, "a"}, {"aéb", least + 3, most, "aé"},
		{"aéb", least, least, ""}, {"aéb", least, -1, ""}, {"aéb", least, 0, ""}, {"aéb", least, 1, ""}, {"aéb", -1, least, ""}, {"aéb", 0, least, ""}, {"aéb", 1, least, ""},
		{"aéb", most, most, ""}, {"aéb", most, 1, ""}, {"aéb", most, least, ""}, {"aéb", most, -1, ""},
		{"aéb", 0, most, "aéb"}, {"aéb", 1, most, "éb"}, {"aéb", 2, most, "b"}, {"aéb", 3, most, ""}, {"aéb", -1, most, "aéb"}, {"aéb", 2, most - 1, "b"},
		{"", 0, 1, ""}, {"", least, most, ""}, {"", 0, 0, ""}, {"", 1, most, ""},
		{"\xE2\x82", 0, 1, "\uFFFD"}, {"\xE2\x82", 0, 2, "\uFFFD\uFFFD"}, {"\xE2\x82", 1, 9, "\uFFFD"}, {"\uFFFD\xFF\U0001F600", 1, 2, "\uFFFD\U0001F600"},
	} {
		if s := words.Sub(c.s, c.from, c.count); s != c.want {
			t.Errorf("P3.2: Sub(%q, %d, %d) = %q, want %q", c.s, c.from, c.count, s, c.want)
		}
	}
}

// P3.3, P3.4: the chapter's examples; numbers are those of characters, and no character is found within another one's bytes.
func TestFindExamples(t *testing.T) {
	for _, c := range []struct {
		s, t         string
		want         int
		begins, ends bool
	}{
		{"ababc", "abc", 2, false, true}, {"é", "\xA9", -1, false, false}, {"x\xFF", "\uFFFD", 1, false, true}, {"", "", 0, true, true}, {"a", "ab", -1, false, false},
		{"éa", "é", 0, true, false}, {"é", "\xC3", -1, false, false}, {"a", "", 0, true, true},
		{"aé", "é", 1, false, true}, {"\U0001F600", "\x80", -1, false, false}, {"a", "aa", -1, false, false},
		{"", "a", -1, false, false}, {"aaa", "aa", 0, true, true}, {"aab", "b", 2, false, true}, {"aabaabaaa", "aabaaa", 3, false, true}, {"abcabd", "abd", 3, false, true},
		{"éé€x", "x", 3, false, true}, {"éé€x", "€", 2, false, false}, {"\xFF", "\xFE", 0, true, true}, {"\uFFFD", "\xFF", 0, true, true}, {"\xFF\xFF", "\uFFFD\uFFFD", 0, true, true},
		{"\xE2\x82", "\xE2\x82\xAC", -1, false, false}, {"\xE2\x82\xAC", "\xE2\x82", -1, false, false}, {"a\xE2\x82", "\uFFFD", 1, false, true}, {"\uFFFD", "\xEF\xBF\xBD\xBD", -1, false, false},
		{"\xE2\u20AC", "\u20AC", 1, false, true}, {"ab", "ba", -1, false, false}, {"abab", "ab", 0, true, true}, {"A", "a", -1, false, false}, {"e\u0301", "é", -1, false, false},
	} {
		if n := words.Find(c.s, c.t); n != c.want {
			t.Errorf("P3.3: Find(%q, %q) = %d", c.s, c.t, n)
		}
		if ok := words.Begins(c.s, c.t); ok != c.begins {
			t.Errorf("P3.4: Begins(%q, %q) = %v", c.s, c.t, ok)
		}
		if ok := words.Ends(c.s, c.t); ok != c.ends {
			t.Errorf("P3.4: Ends(%q, %q) = %v", c.s, c.t, ok)
		}
	}
}

// P3.5, P3.6: the chapter's examples, and characters above U+FFFF beside those just below; each pair the other way round, too.
func TestCompareExamples(t *testing.T) {
	for _, c := range []struct {
		s, t             string
		byChars, byUnits int
	}{
		{"a", "b", -1, -1}, {"é", "z", 1, 1}, {"a", "ab", -1, -1}, {"\xFF", "\uFFFD", 0, 0}, {"\uFFFD", "\U00010000", -1, 1}, {"\uD7FF", "\U00010000", -1, -1},
		{"", "", 0, 0}, {"", "\x00", -1, -1}, {"a", "a\x00", -1, -1}, {"ab", "b", -1, -1}, {"b", "ab", 1, 1},
		{"\uE000", "\U00010000", -1, 1}, {"\uE000", "\U0010FFFF", -1, 1}, {"\uFFFF", "\U00010000", -1, 1}, {"\uD7FF", "\U0010FFFF", -1, -1}, {"\uD7FF", "\uE000", -1, -1},
		{"\U00010000", "\U00010001", -1, -1}, {"\U000103FF", "\U00010400", -1, -1}, {"\U0001F600a", "\U0001F600b", -1, -1}, {"\U0001F600", "\U0001F600a", -1, -1},
		{"x\uE000", "x\U00010000", -1, 1}, {"x\uE000a", "x\U00010000", -1, 1}, {"\U00010000\uE000", "\U00010000\U00010000", -1, 1},
		{"\xFF", "\U00010000", -1, 1}, {"\xFF", "\uFFFE", -1, -1}, {"\xFF", "\uFFFC", 1, 1}, {"\xFF", "\xFE", 0, 0}, {"\x80", "z", 1, 1}, {"\xF0\x9F", "\uFFFD\uFFFD", 0, 0}, {"\xE2\x82", "\uFFFD", 1, 1}, {"\xFFa", "\uFFFDb", -1, -1},
	} {
		if x, y := words.Compare(c.s, c.t), words.Compare(c.t, c.s); x != c.byChars || y != -c.byChars {
			t.Errorf("P3.5: Compare(%q, %q) = %d, the other way %d", c.s, c.t, x, y)
		}
		if x, y := words.CompareUnits(c.s, c.t), words.CompareUnits(c.t, c.s); x != c.byUnits || y != -c.byUnits {
			t.Errorf("P3.6: CompareUnits(%q, %q) = %d, the other way %d", c.s, c.t, x, y)
		}
	}
}

// P3.7: the chapter's examples; the first of several wins, and places are those of characters.
func TestTranslateExamples(t *testing.T) {
	for _, c := range []struct{ s, from, to, want string }{
		{"bar", "abc", "AB", "BAr"}, {"b\xFFr", "\uFFFD", "é", "bér"}, {"aa", "aa", "xy", "xx"}, {"abc", "abc", "A", "A"}, {"\xC3x\xA9", "x", "", "\uFFFD\uFFFD"},
		{"", "a", "b", ""}, {"abc", "", "", "abc"}, {"abc", "", "xyz", "abc"}, {"abc", "abc", "", ""}, {"a\xFF", "", "", "a\uFFFD"},
		{"aba", "aba", "xy", "xyx"}, {"aba", "aab", "x", "xx"}, {"aab", "aba", "xyz", "xxy"}, {"abab", "ab", "ba", "baba"}, {"a", "éa", "xy", "y"}, {"ab", "ab", "é€", "é€"}, {"é€", "é€", "ab", "ab"},
		{"\uFFFD", "\xFF", "x", "x"}, {"\xE2\x82", "\x82\xE2", "xy", "xx"}, {"é", "é", "\xFF", "\uFFFD"}, {"ab", "ab", "\xE2\x82", "\uFFFD\uFFFD"}, {"é", "\xA9\xC3", "xy", "é"}, {"b", "\xFFab", "xyz", "z"},
		{"a", "a", "xyz", "x"}, {"\U0001F600", "\U0001F600", "\x00", "\x00"},
	} {
		if s := words.Translate(c.s, c.from, c.to); s != c.want {
			t.Errorf("P3.7: Translate(%q, %q, %q) = %q, want %q", c.s, c.from, c.to, s, c.want)
		}
	}
}

// P3.8: the chapter's examples; of blanks there are four, and no more.
func TestSqueezeExamples(t *testing.T) {
	for _, c := range [][2]string{
		{" a \t\n b ", "a b"}, {"\u00A0a ", "\u00A0a"}, {" ", ""},
		{"", ""}, {" \t\r\n", ""}, {"a", "a"}, {"a\tb\nc\rd e", "a b c d e"}, {"\r\na\r\n\r\nb\r\n", "a b"}, {"a  b", "a b"}, {"a b", "a b"},
		{"\va\f", "\va\f"}, {"a\u0085b", "a\u0085b"}, {"\u3000a\u2003b\u2028", "\u3000a\u2003b\u2028"}, {"\x00 \x00", "\x00 \x00"}, {"\uFEFF a", "\uFEFF a"},
		{"\xFF", "\uFFFD"}, {" \xFF \xFE ", "\uFFFD \uFFFD"}, {"\xE2 \x82", "\uFFFD \uFFFD"}, {"\xA0 a", "\uFFFD a"}, {" \U0001F600\t", "\U0001F600"},
	} {
		if s := words.Squeeze(c[0]); s != c[1] {
			t.Errorf("P3.8: Squeeze(%q) = %q, want %q", c[0], s, c[1])
		}
	}
}

// P3.9: the chapter's examples; bytes that make a character only when turned about stay wrong.
func TestReverseExamples(t *testing.T) {
	for _, c := range [][2]string{
		{"aé\U0001F600", "\U0001F600éa"}, {"\xA9\xC3", "\uFFFD\uFFFD"},
		{"", ""}, {"a", "a"}, {"ab", "ba"}, {"e\u0301", "\u0301e"}, {"\r\n", "\n\r"}, {"a\xFF\uFFFDb", "b\uFFFD\uFFFDa"}, {"\xE2\x82\xAC\xE2\x82", "\uFFFD\uFFFD\u20AC"},
	} {
		if s := words.Reverse(c[0]); s != c[1] {
			t.Errorf("P3.9: Reverse(%q) = %q, want %q", c[0], s, c[1])
		}
	}
}

// P3.10: the chapter's examples; borders overlap, and are counted by characters.
func TestBorderExamples(t *testing.T) {
	for _, c := range []struct {
		s    string
		want []int
	}{
		{"ababa", []int{0, 0, 1, 2, 3}}, {"aab", []int{0, 1, 0}}, {"", nil},
		{"a", []int{0}}, {"aaaa", []int{0, 1, 2, 3}}, {"abcd", []int{0, 0, 0, 0}}, {"aabaaab", []int{0, 1, 0, 1, 2, 2, 3}}, {"abaababaab", []int{0, 0, 1, 1, 2, 3, 2, 3, 4, 5}},
		{"é€é€", []int{0, 0, 1, 2}}, {"\xFF\uFFFD", []int{0, 1}}, {"\xE2\x82\xE2\x82\xAC", []int{0, 1, 0}}, {"éè", []int{0, 0}}, {"\U0001F600\U0001F600", []int{0, 1}},
	} {
		if list := words.Border(c.s); !slices.Equal(list, c.want) {
			t.Errorf("P3.10: Border(%q) = %v, want %v", c.s, list, c.want)
		}
	}
}

// What is answered is new memory, where nothing had to be changed, too; two answers share none.
func TestAnswersShareNothing(t *testing.T) {
	s := strings.Repeat("a\u20AC", 20)
	for i, out := range []string{words.Sub(s, 0, 99), words.Translate(s, "b", "c"), words.Translate(s, "", ""), words.Squeeze(s)} {
		if out != s || unsafe.StringData(out) == unsafe.StringData(s) {
			t.Errorf("answer %d is what was given", i)
		}
	}
	one, two := words.Border("aaa"), words.Border("aaa")
	room := one[:cap(one)]
	for i := range room {
		room[i] = 99
	}
	if want := []int{0, 1, 2}; !slices.Equal(two, want) || !slices.Equal(words.Border("aaa"), want) {
		t.Errorf("two answers of Border share memory: %v", two)
	}
}

// 'What follows': texts at which a search that starts afresh at every character would take more than 10^11 steps.
func TestFindAndBorderGoOnce(t *testing.T) {
	const n = 1 << 20
	many := strings.Repeat("a", n)
	half := many[:n/2]
	done := make(chan bool)
	go func() {
		defer close(done)
		for _, c := range []struct {
			s, t string
			want int
		}{
			{many, half + "b", -1}, {many, "b" + half, -1}, {many + "b", half + "b", n / 2}, {many, half + "b" + half, -1},
			{strings.Repeat("ab", n), strings.Repeat("ab", n/2) + "b", -1}, {strings.Repeat(half+"c", 3), half + "d", -1}, {strings.Repeat("\xFF", n) + "é", strings.Repeat("\uFFFD", n/2) + "é", n / 2},
		} {
			if got := words.Find(c.s, c.t); got != c.want {
				t.Errorf("P3.3: Find of a long text is %d, want %d", got, c.want)
			}
		}
		list := words.Border(half + "b" + half + "c")
		if list[n/2-1] != n/2-1 || list[n/2] != 0 || list[n] != n/2 || list[n+1] != 0 {
			t.Errorf("P3.10: Border of a long text: %d, %d, %d, %d", list[n/2-1], list[n/2], list[n], list[n+1])
		}
		list = words.Border(strings.Repeat(many[:n/16]+"b", 8) + many)
		if want := n/16 + 1; list[want*8-1] != want*7 || list[len(list)-1] != n/16 {
			t.Errorf("P3.10: Border of a long text that comes again: %d, %d", list[want*8-1], list[len(list)-1])
		}
	}()
	select {
	case <-done:
	case <-time.After(time.Minute):
		t.Fatal("Find or Border takes more than some steps for each byte")
	}
}
