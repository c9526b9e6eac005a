package hunt_test

import (
	"math"
	"slices"
	"strings"
	"testing"

	"gimlet/api"
	"gimlet/hunt"
)

// What follows holds the Hunts against tables that were written by hand. What is known is written as F, U, T: ahead of all pieces, behind each, and of the whole text.

func needLetters(t *testing.T, a asked, want string, pieces ...string) {
	t.Helper()
	h := made(t, a)
	got := letter(h.Truth())
	for _, s := range pieces {
		if e := h.Add(s); e != api.OK {
			t.Errorf("P16.2: %v: Add(%q) of %q: %d", a, s, pieces, e)
		}
		got += letter(h.Truth())
	}
	if e := h.Close(); e != api.OK {
		t.Errorf("P16.2: %v: Close behind %q: %d", a, pieces, e)
	}
	if got += letter(h.Truth()); got != want {
		t.Errorf("P16.3, P16.4: %v: %q: %s, want %s", a, pieces, got, want)
	}
	tried(t, a, pieces...)
}

// TestExamples: those of the chapter.
func TestExamples(t *testing.T) {
	needLetters(t, asked{api.Equal, "ab", 0}, "UUUUT", "a", "b", "")
	needLetters(t, asked{api.Equal, "ab", 0}, "UFF", "ac")
	needLetters(t, asked{api.Unequal, "ab", 0}, "UUT", "a")
	needLetters(t, asked{api.Begins, "ab", 0}, "UUTTT", "a", "b", "c")
	needLetters(t, asked{api.Begins, "", 0}, "TT")
	needLetters(t, asked{api.Contains, "aab", 0}, "UUTT", "aa", "ab")
	needLetters(t, asked{api.Ends, "aba", 0}, "UUUT", "ab", "aba")
	needLetters(t, asked{api.LengthIs, "", 2}, "UUUFF", "é", "é", "x")
	needLetters(t, asked{api.Longer, "", 1}, "UUTT", "é", "x")
	needLetters(t, asked{api.Shorter, "", 1}, "UUFF", "", "é")
	needLetters(t, asked{api.Equal, "é", 0}, "UFFF", "\xC3", "\xA9")
	needLetters(t, asked{api.Exists, "", 0}, "TT")
}

// TestWhole: texts of which no piece or an empty one comes.
func TestWhole(t *testing.T) {
	for _, r := range []struct {
		a    asked
		want string // ahead, and whole
	}{
		{asked{api.Exists, "", 0}, "TT"}, {asked{api.Exists, "a", 1}, "TT"},
		{asked{api.Equal, "", 0}, "UT"}, {asked{api.Equal, "a", 0}, "UF"}, {asked{api.Unequal, "", 0}, "UF"}, {asked{api.Unequal, "a", 0}, "UT"},
		{asked{api.Begins, "", 0}, "TT"}, {asked{api.Begins, "a", 0}, "UF"}, {asked{api.Ends, "", 0}, "UT"}, {asked{api.Ends, "a", 0}, "UF"}, {asked{api.Contains, "", 0}, "TT"}, {asked{api.Contains, "a", 0}, "UF"},
		{asked{api.LengthIs, "", 0}, "UT"}, {asked{api.LengthIs, "", 1}, "UF"}, {asked{api.Longer, "", 0}, "UF"}, {asked{api.Longer, "", 1}, "UF"}, {asked{api.Shorter, "", 0}, "FF"}, {asked{api.Shorter, "", 1}, "UT"},
	} {
		needLetters(t, r.a, r.want)
		needLetters(t, r.a, r.want[:1]+r.want, "")
		needLetters(t, r.a, r.want[:1]+r.want[:1]+r.want, "", "")
	}
}

// TestAlike: whether what comes is the text, or begins with it.
func TestAlike(t *testing.T) {
	for _, r := range []struct {
		text, equal, begins string
		pieces              []string
	}{
		{"", "UFF", "TTT", []string{"a"}}, {"", "UUFF", "TTTT", []string{"", "a"}}, {"ab", "UUFF", "UTTT", []string{"ab", "c"}}, {"ab", "UFF", "UTT", []string{"abab"}}, {"ab", "UUUUT", "UUUTT", []string{"a", "", "b"}}, {"ab", "UFFF", "UFFF", []string{"b", "ab"}},
		{"ab", "UUF", "UUF", []string{"a"}}, {"ab", "UUFFF", "UUFFF", []string{"a", "c", "ab"}}, {"aab", "UUFF", "UUFF", []string{"aa", "aab"}}, {"ab", "UFF", "UFF", []string{"Ab"}}, {"ab", "UFF", "UFF", []string{"\x00ab"}},
		{"\xFF", "UUT", "UTT", []string{"\uFFFD"}}, {"\uFFFD", "UUT", "UTT", []string{"\xFE"}}, {"\uFFFD\uFFFD", "UUUT", "UUTT", []string{"\xC3", "\xA9"}}, {"\uFFFDa", "UUUT", "UUTT", []string{"\xC3", "a"}},
		{"\xE2\x82", "UUUT", "UTTT", []string{"\xE2\x82", ""}}, {"\xE2\x82\xAC", "UFFF", "UFFF", []string{"\xE2\x82", "\xAC"}}, {"\xE2\x82", "UFF", "UFF", []string{"€"}},
		{"é", "UFFF", "UFFF", []string{"\xC3", "\xA9"}}, {"\xC3", "UFF", "UFF", []string{"é"}}, {"é", "UFF", "UTT", []string{"é\xA9"}}, {"e\u0301", "UFF", "UFF", []string{"é"}},
		{"€é\U0001F600", "UUUUT", "UUUTT", []string{"€", "é", "\U0001F600"}}, {"\U0001F600", "UFF", "UFF", []string{"\xF0\x9F\x98"}}, {"\U0001F600", "UFF", "UFF", []string{"\U0001F601"}},
	} {
		needLetters(t, asked{api.Equal, r.text, 0}, r.equal, r.pieces...)
		needLetters(t, asked{api.Begins, r.text, 0}, r.begins, r.pieces...)
		needLetters(t, asked{api.Unequal, r.text, 0}, strings.NewReplacer("F", "T", "T", "F").Replace(r.equal), r.pieces...)
	}
}

// TestSearches: whether what comes holds the text, or ends with it.
func TestSearches(t *testing.T) {
	for _, r := range []struct {
		text, contains, ends string
		pieces               []string
	}{
		{"", "TTT", "UUT", []string{"a"}}, {"a", "UTT", "UUT", []string{"a"}}, {"a", "UTTT", "UUUF", []string{"a", "b"}}, {"a", "UUTT", "UUUT", []string{"b", "a"}}, {"ab", "UUF", "UUF", []string{"a"}}, {"ab", "UUUF", "UUUF", []string{"b", "a"}},
		{"abab", "UUUTT", "UUUUT", []string{"aba", "abb", "abab"}}, {"abab", "UUTTT", "UUUUF", []string{"aba", "b", "b"}}, {"abab", "UTT", "UUT", []string{"ababab"}}, {"aba", "UTT", "UUF", []string{"ababab"}}, {"aba", "UTT", "UUT", []string{"abababa"}},
		{"aab", "UUTT", "UUUT", []string{"aa", "ab"}}, {"aab", "UTT", "UUT", []string{"aaab"}}, {"aab", "UUF", "UUF", []string{"abab"}}, {"aa", "UTT", "UUT", []string{"aaa"}}, {"aa", "UUUTT", "UUUUF", []string{"a", "b", "aab"}}, {"aabaaa", "UTT", "UUT", []string{"aabaabaaa"}}, {"abcabd", "UTT", "UUT", []string{"abcabcabd"}}, {"aabaac", "UTT", "UUT", []string{"aabaabaac"}},
		{"é", "UUUF", "UUUF", []string{"\xC3", "\xA9"}}, {"\xA9", "UUF", "UUF", []string{"é"}}, {"\xA9", "UTT", "UUT", []string{"é\uFFFD"}}, {"\uFFFD", "UTT", "UUF", []string{"\xFFé"}}, {"\uFFFD\xFF", "UUTT", "UUUT", []string{"\xC3", "\xA9"}}, {"\uFFFD\uFFFD\uFFFD", "UUTT", "UUUT", []string{"x\xE2\x82", "\xAC"}},
		{"éè", "UUTT", "UUUT", []string{"éé", "è"}}, {"€\U0001F600", "UUUTTT", "UUUUUF", []string{"€", "", "\U0001F600", "€"}}, {"é", "UUF", "UUF", []string{"e\u0301"}},
	} {
		needLetters(t, asked{api.Contains, r.text, 0}, r.contains, r.pieces...)
		needLetters(t, asked{api.Ends, r.text, 0}, r.ends, r.pieces...)
	}
}

// TestLengths: how many characters come.
func TestLengths(t *testing.T) {
	for _, r := range []struct {
		number                int
		like, longer, shorter string
		pieces                []string
	}{
		{0, "UUT", "UUF", "FFF", []string{""}}, {0, "UFF", "UTT", "FFF", []string{"a"}}, {1, "UUUF", "UUUF", "UUUT", []string{"", ""}}, {1, "UUT", "UUF", "UFF", []string{"a"}}, {1, "UFF", "UTT", "UFF", []string{"ab"}}, {2, "UUF", "UUF", "UUT", []string{"a"}},
		{2, "UUUFF", "UUUTT", "UUFFF", []string{"é", "é", "x"}}, {1, "UUT", "UUF", "UFF", []string{"\U0001F600"}}, {1, "UFF", "UTT", "UFF", []string{"e\u0301"}}, {1, "UUT", "UUF", "UFF", []string{"\x00"}}, {1, "UUT", "UUF", "UFF", []string{"\xFF"}}, {2, "UUT", "UUF", "UFF", []string{"\r\n"}},
		{1, "UUFF", "UUTT", "UFFF", []string{"\xC3", "\xA9"}}, {1, "UUT", "UUF", "UFF", []string{"é"}}, {2, "UUFF", "UUTT", "UFFF", []string{"\xE2\x82", "\xAC"}}, {3, "UUT", "UUF", "UFF", []string{"\xED\xA0\x80"}}, {1, "UUT", "UUF", "UFF", []string{"\uFFFD"}},
		{math.MaxInt, "UUF", "UUF", "UUT", []string{"abc"}}, {math.MaxInt - 1, "UUF", "UUF", "UUT", []string{"abc"}}, {api.MaxNumber + 1, "UUF", "UUF", "UUT", []string{"abc"}},
	} {
		needLetters(t, asked{api.LengthIs, "", r.number}, r.like, r.pieces...)
		needLetters(t, asked{api.Longer, "", r.number}, r.longer, r.pieces...)
		needLetters(t, asked{api.Shorter, "", r.number}, r.shorter, r.pieces...)
	}
}

// TestCounts: P16.1: text counts for Equal to Contains alone, number for LengthIs to Shorter.
func TestCounts(t *testing.T) {
	for c := api.Exists; c <= api.Shorter; c++ {
		for _, number := range []int{0, 1, 2, 3, math.MaxInt} {
			for _, text := range []string{"", "a", "ab", "xyz", "\xFF"} {
				for _, s := range textsOf([]string{"a", "b"}, 3) {
					tried(t, asked{c, text, number}, charactersOf(s)...)
				}
			}
		}
	}
}

// TestRefused: P16.1: what is no comparison, whatever else is wrong; what is no number, whatever the comparison is.
func TestRefused(t *testing.T) {
	numbers := []int{0, 1, -1, math.MinInt, math.MaxInt, math.MinInt + 1}
	for _, c := range []api.Compare{9, -1, 10, -9, 255, 256, 264, 1 << 32, 1<<32 + 1, math.MinInt, math.MaxInt} {
		for _, number := range numbers {
			for _, text := range []string{"", "a", "\xFF"} {
				if h, e := hunt.New(c, text, number); h != nil || e != api.ErrKind {
					t.Errorf("P16.1: New(%d, %q, %d): %v, %d", c, text, number, h, e)
				}
			}
		}
	}
	for c := api.Exists; c <= api.Shorter; c++ {
		for _, number := range numbers {
			for _, text := range []string{"", "a", "\xFF"} {
				h, e := hunt.New(c, text, number)
				if number < 0 && (h != nil || e != api.ErrRange) || number >= 0 && (h == nil || e != api.OK) {
					t.Errorf("P16.1: New(%d, %q, %d): %v, %d", c, text, number, h, e)
				}
			}
		}
	}
}

// TestEnded: P16.2, rule 3: behind Close nothing comes any more, and nothing changes.
func TestEnded(t *testing.T) {
	for _, text := range []string{"", "a", "ab", "é"} {
		for number := range 4 {
			for _, a := range every(text, number) {
				for _, pieces := range listsOf([]string{"a", "b", "é"}, 2) {
					x := newTrial(t, a)
					for _, s := range pieces[:number%3] {
						x.add(t, s)
					}
					x.end(t)
					for _, s := range []string{"", "a", "b", "ab", "\xFF", "é"} {
						if e := x.h.Add(s); e != api.ErrEnded {
							t.Fatalf("P16.2: %v: Add(%q) behind Close: %d", a, s, e)
						}
						x.need(t, a.ended(x.came))
						if e := x.h.Close(); e != api.ErrEnded {
							t.Fatalf("P16.2: %v: Close behind Close: %d", a, e)
						}
						x.need(t, a.ended(x.came))
					}
				}
			}
		}
	}
}

// TestNil: P16.2, P16.5.
func TestNil(t *testing.T) {
	var h *hunt.Hunt
	for _, s := range []string{"", "a", "\xFF"} {
		if e := h.Add(s); e != api.ErrNil {
			t.Errorf("P16.2: Add(%q) of a nil Hunt: %d", s, e)
		}
		if e := h.Close(); e != api.ErrNil {
			t.Errorf("P16.2: Close of a nil Hunt: %d", e)
		}
		if v := h.Truth(); v != F {
			t.Errorf("P16.5: Truth of a nil Hunt: %d", v)
		}
		if n := h.Kept(); n != 0 {
			t.Errorf("P16.5: Kept of a nil Hunt: %d", n)
		}
	}
}

// TestMadeOtherwise: rule 6: the calls of what New didn't make end.
func TestMadeOtherwise(t *testing.T) {
	h := new(hunt.Hunt)
	for range 2 {
		h.Truth()
		h.Kept()
		h.Add("ab")
		h.Close()
	}
}

// TestErrors: the errors are those of api, by their names.
func TestErrors(t *testing.T) {
	_, kind := hunt.New(9, "", -1)
	_, number := hunt.New(api.Equal, "", -1)
	h := made(t, asked{api.Equal, "", 0})
	h.Close()
	got := []api.Errno{kind, number, (*hunt.Hunt)(nil).Add(""), h.Add(""), h.Close()}
	if want := []api.Errno{4, 2, 1, 5, 5}; !slices.Equal(got, want) {
		t.Errorf("P16.1, P16.2: %v, want %v", got, want)
	}
}
