package chars_test

import (
	"math"
	"slices"
	"strings"
	"testing"

	"gimlet/api"
	"gimlet/chars"
)

// ends: what lies in a class, from an end of a range to the other, as the document writes it.
type ends struct{ low, high rune }

// written: the classes' ranges in the document's own order and pieces, so that the program's table is held against other words than its own.
func written(c api.Class) []ends {
	switch c {
	case api.Allowed:
		return []ends{{9, 9}, {0xA, 0xA}, {0xD, 0xD}, {0x20, 0xD7FF}, {0xE000, 0xFFFD}, {0x10000, 0x10FFFF}}
	case api.Blank:
		return []ends{{0x20, 0x20}, {9, 9}, {0xA, 0xA}, {0xD, 0xD}}
	case api.NameStart:
		return []ends{{'A', 'Z'}, {'a', 'z'}, {'_', '_'}, {0xC0, 0xD6}, {0xD8, 0xF6}, {0xF8, 0x2FF}, {0x370, 0x37D}, {0x37F, 0x1FFF},
			{0x200C, 0x200C}, {0x200D, 0x200D}, {0x2070, 0x218F}, {0x2C00, 0x2FEF}, {0x3001, 0xD7FF}, {0xF900, 0xFDCF}, {0xFDF0, 0xFFFD}, {0x10000, 0xEFFFF}}
	case api.NameRest:
		return append(written(api.NameStart), ends{'-', '-'}, ends{'.', '.'}, ends{'0', '9'}, ends{0xB7, 0xB7}, ends{0x300, 0x36F}, ends{0x203F, 0x203F}, ends{0x2040, 0x2040})
	case api.Digit:
		return []ends{{'0', '9'}}
	case api.HexDigit:
		return []ends{{'0', '9'}, {'a', 'f'}, {'A', 'F'}}
	}
	return nil
}

// isWritten: is r of the class, by the document's ranges?
func isWritten(c api.Class, r rune) bool {
	return slices.ContainsFunc(written(c), func(e ends) bool { return e.low <= r && r <= e.high })
}

// asked: the classes that there are, and numbers that are none.
var asked = []api.Class{api.Allowed, api.Blank, api.NameStart, api.NameRest, api.Digit, api.HexDigit,
	api.Classes, api.Classes + 1, -1, math.MaxInt, math.MinInt}

// edges: the first and last character of every range of every class, the runes just below and above it, and the ends of what a rune can be; rising.
func edges() []rune {
	list := []rune{math.MinInt32, math.MinInt32 + 1, -1, 0, 1, 0x7F, 0x80, 0x7FF, 0x800, 0xD800, 0xDBFF, 0xDC00, 0xDFFF, 0xFFFE, 0xFFFF,
		0x10FFFE, 0x10FFFF, 0x110000, math.MaxInt32 - 1, math.MaxInt32}
	for _, c := range asked {
		for _, e := range written(c) {
			list = append(list, e.low-1, e.low, e.low+1, e.high-1, e.high, e.high+1)
		}
	}
	slices.Sort(list)
	return slices.Compact(list)
}

func TestIsExamples(t *testing.T) {
	for _, x := range []struct {
		c    api.Class
		r    rune
		want bool
	}{
		{api.Allowed, 9, true}, {api.Allowed, 0, false}, {api.Allowed, 0xFFFD, true}, {api.Allowed, 0xFFFE, false}, {api.Allowed, 0xD800, false}, {api.Allowed, -1, false},
		{api.NameStart, '-', false}, {api.NameRest, '-', true}, {api.NameStart, 0xD7, false}, {api.NameStart, 0xE9, true},
		{api.Blank, 0xA0, false}, {api.HexDigit, 'g', false}, {6, 'a', false},
		{api.NameStart, ':', false}, {api.NameRest, ':', false}, {api.Blank, 0xB, false}, {api.Blank, 0x3000, false}, {api.Digit, 0x661, false}, {api.HexDigit, 0xFF21, false},
	} {
		if got := chars.Is(x.c, x.r); got != x.want {
			t.Errorf("P2.1: Is(%d, %#x) = %v", x.c, x.r, got)
		}
	}
}

func TestIsEdges(t *testing.T) {
	for _, c := range asked {
		for _, r := range edges() {
			if got := chars.Is(c, r); got != isWritten(c, r) {
				t.Errorf("P2.1: Is(%d, %#x) = %v", c, r, got)
			}
		}
	}
}

func TestIsNoCharacter(t *testing.T) {
	for _, c := range asked {
		for r := rune(0xD800); r <= 0xDFFF; r++ {
			if chars.Is(c, r) {
				t.Fatalf("P2.1: Is(%d, %#x), a surrogate", c, r)
			}
		}
	}
}

func TestNextExamples(t *testing.T) {
	for _, x := range []struct {
		c    api.Class
		r    rune
		want rune
		ok   bool
	}{
		{api.Digit, '8', '9', true}, {api.Digit, '9', 0, false}, {api.Digit, -5, '0', true}, {api.Allowed, 0xD7FF, 0xE000, true},
		{api.Allowed, 0xD900, 0xE000, true}, {api.Allowed, 0x10FFFE, 0x10FFFF, true}, {api.Allowed, 0x10FFFF, 0, false},
		{api.NameRest, 0x2FF, 0x300, true}, {api.NameStart, 0x2FF, 0x370, true}, {api.Blank, ' ', 0, false},
		{api.Classes, -1, 0, false}, {-1, -1, 0, false},
	} {
		if r, ok := chars.Next(x.c, x.r); r != x.want || ok != x.ok {
			t.Errorf("P2.3: Next(%d, %#x) = %#x, %v", x.c, x.r, r, ok)
		}
	}
}

// TestNextEdges asks the document's ranges for the least character above r: it is the least of the least ones above r of each.
func TestNextEdges(t *testing.T) {
	for _, c := range asked {
		for _, r := range edges() {
			want, ok := rune(0), false
			for _, e := range written(c) {
				if r < e.high && (!ok || max(e.low, r+1) < want) {
					want, ok = max(e.low, r+1), true
				}
			}
			if got, has := chars.Next(c, r); got != want || has != ok {
				t.Errorf("P2.3: Next(%d, %#x) = %#x, %v; want %#x, %v", c, r, got, has, want, ok)
			}
		}
	}
}

func TestCountExamples(t *testing.T) {
	for _, x := range []struct {
		c    api.Class
		r    rune
		want int
	}{
		{api.Digit, '4', 5}, {api.Allowed, 0x20, 4}, {api.Allowed, math.MaxInt32, 1112033}, {api.Blank, -1, 0},
		{api.HexDigit, math.MaxInt32, 22}, {api.Digit, '0', 1}, {api.Digit, '/', 0}, {api.Digit, ':', 10}, {api.Blank, math.MinInt32, 0},
		{api.Classes, math.MaxInt32, 0}, {-1, math.MaxInt32, 0},
	} {
		if got := chars.Count(x.c, x.r); got != x.want {
			t.Errorf("P2.4: Count(%d, %#x) = %d", x.c, x.r, got)
		}
	}
}

func TestCountEdges(t *testing.T) {
	for _, c := range asked {
		for _, r := range edges() {
			want := 0
			for _, e := range written(c) {
				if r >= e.low {
					want += int(min(r, e.high)) - int(e.low) + 1
				}
			}
			if got := chars.Count(c, r); got != want {
				t.Errorf("P2.4: Count(%d, %#x) = %d; want %d", c, r, got, want)
			}
		}
	}
}

func TestAllStopsAndRepeats(t *testing.T) {
	all := chars.All(api.HexDigit)
	const want = "0123456789ABCDEFabcdef"
	for range 2 {
		if got := string(slices.Collect(all)); got != want {
			t.Errorf("P2.5: All(HexDigit) = %q", got)
		}
		for n := range len(want) {
			if got := first(all, n+1); got != want[:n+1] {
				t.Errorf("P2.5: All(HexDigit), stopped behind %d: %q", n+1, got)
			}
		}
	}
	pairs := 0
	for a := range all {
		for b := range all {
			if a != b {
				pairs++
			}
		}
	}
	if pairs != 22*21 {
		t.Errorf("P2.5: a walk within a walk: %d pairs", pairs)
	}
}

// first: the first n characters of a walk, which is stopped there.
func first(all func(func(rune) bool), n int) string {
	var out strings.Builder
	for r := range all {
		out.WriteRune(r)
		n--
		if n == 0 {
			break
		}
	}
	return out.String()
}

func TestAllOfNoClass(t *testing.T) {
	for _, c := range []api.Class{api.Classes, -1, math.MaxInt, math.MinInt} {
		for r := range chars.All(c) {
			t.Errorf("P2.5: All(%d) gives %#x", c, r)
			break
		}
	}
}

func TestNameExamples(t *testing.T) {
	for _, x := range []struct {
		s    string
		want bool
	}{
		{"a-1", true}, {"1a", false}, {"", false}, {"\xff", false}, {"\xef\xbf\xbd", true},
		{"_", true}, {"-", false}, {".a", false}, {"a.", true}, {"a b", false}, {" a", false}, {"a ", false}, {"a:b", false}, {"é", true}, {"e\u0301", true}, {"\u0301e", false},
		{"a\xff", false}, {"\xffa", false}, {"a\xef\xbf", false}, {"a\xef\xbf\xbdb", true}, {"\xed\xa0\x80", false}, {"\xc1\x81", false}, {"\xf4\x90\x80\x80", false},
		{"\U000EFFFF", true}, {"\U000F0000", false}, {strings.Repeat("é", 10000), true}, {strings.Repeat("é", 10000) + "\xc3", false},
	} {
		if got := chars.Name(x.s); got != x.want {
			t.Errorf("P2.6: Name(%.20q) = %v", x.s, got)
		}
	}
}

func TestTextsExamples(t *testing.T) {
	for _, x := range []struct {
		s    string
		want bool
	}{
		{"", true}, {"a\x00", false}, {"a\xff", false}, {"\t\U0010ffff", true},
		{"\r\n \x7f\u0080", true}, {"\x0b", false}, {"<&>'\"]]>", true}, {"\uFFFD", true}, {"\uFFFE", false}, {"\uFFFF", false}, {"\x00a", false},
		{"\xff", false}, {"\xffa", false}, {"\xef\xbf", false}, {"\xef\xbf\xbd\xbd", false}, {"\xed\xa0\x80", false}, {"\xed\x9f\xbf\xee\x80\x80", true}, {"\xf4\x90\x80\x80", false}, {"\xe0\x80\x80", false},
		{strings.Repeat("é", 10000), true}, {strings.Repeat("é", 10000) + "\xc3", false},
	} {
		if got := chars.Texts(x.s); got != x.want {
			t.Errorf("P2.7: Texts(%.20q) = %v", x.s, got)
		}
	}
}

// TestTextsEdges lays each edge character alone, at the front, in the middle and at the end of a text that is a name.
func TestTextsEdges(t *testing.T) {
	for _, r := range edges() {
		if r < 0 || r > 0x10FFFF || 0xD800 <= r && r <= 0xDFFF {
			continue
		}
		x := string(r)
		starts, rests, allowed := isWritten(api.NameStart, r), isWritten(api.NameRest, r), isWritten(api.Allowed, r)
		for s, name := range map[string]bool{x: starts, x + "ab": starts, "a" + x + "b": rests, "ab" + x: rests} {
			if chars.Name(s) != name {
				t.Errorf("P2.6: Name(%q) = %v", s, !name)
			}
			if chars.Texts(s) != allowed {
				t.Errorf("P2.7: Texts(%q) = %v", s, !allowed)
			}
		}
	}
}

func TestNothingIsChanged(t *testing.T) {
	room := []byte{0xEF, 0xBF, 0x11, 0x22, 0x33}
	for _, c := range asked {
		chars.Begins(c, room[:2])
		if !slices.Equal(room, []byte{0xEF, 0xBF, 0x11, 0x22, 0x33}) {
			t.Fatalf("P2.8: Begins(%d) changed its bytes to % x", c, room)
		}
	}
}

// TestNothingIsKept asks all questions forth and back: an answer that hung on an earlier one would differ.
func TestNothingIsKept(t *testing.T) {
	ask := func(c api.Class, r rune) (x [4]int) {
		next, ok := chars.Next(c, r)
		x = [4]int{int(next), chars.Count(c, r)}
		if ok {
			x[2]++
		}
		if chars.Is(c, r) {
			x[2] += 2
		}
		for y := range chars.All(c) {
			x[3] = int(y)
			break
		}
		return x
	}
	type question struct {
		c api.Class
		r rune
	}
	var questions []question
	var answers [][4]int
	for _, c := range asked {
		for _, r := range edges() {
			questions = append(questions, question{c, r})
			answers = append(answers, ask(c, r))
		}
	}
	for i := len(questions) - 1; i >= 0; i-- {
		if q := questions[i]; ask(q.c, q.r) != answers[i] {
			t.Errorf("P2.8: the answers of class %d at %#x differ the second time", q.c, q.r)
		}
	}
}
