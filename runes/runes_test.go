package runes_test

import (
	"bytes"
	"math"
	"slices"
	"testing"
	"unsafe"

	"gimlet/api"
	"gimlet/runes"
)

// P1.1: the chapter's examples, the edges of what is a character, and places that are none.
func TestNextExamples(t *testing.T) {
	euro := "\xE2\x82\xACA"
	for _, c := range []struct {
		b     string
		at    int
		r     rune
		width int
		how   api.How
		e     api.Errno
	}{
		{euro, 0, 0x20AC, 3, api.Have, api.OK},
		{euro, 1, 0xFFFD, 1, api.Bad, api.OK},
		{euro, 2, 0xFFFD, 1, api.Bad, api.OK},
		{euro, 3, 'A', 1, api.Have, api.OK},
		{euro, 4, 0, 0, api.Done, api.OK},
		{euro, 5, 0, 0, 0, api.ErrRange},
		{euro, -1, 0, 0, 0, api.ErrRange},
		{euro, math.MinInt, 0, 0, 0, api.ErrRange},
		{euro, math.MaxInt, 0, 0, 0, api.ErrRange},
		{"", 0, 0, 0, api.Done, api.OK},
		{"", 1, 0, 0, 0, api.ErrRange},
		{"", -1, 0, 0, 0, api.ErrRange},
		{"\xEF\xBF\xBD", 0, 0xFFFD, 3, api.Have, api.OK},
		{"\x00", 0, 0, 1, api.Have, api.OK},
		{"\x7F", 0, 0x7F, 1, api.Have, api.OK},
		{"\xC2\x80", 0, 0x80, 2, api.Have, api.OK},
		{"\xDF\xBF", 0, 0x7FF, 2, api.Have, api.OK},
		{"\xE0\xA0\x80", 0, 0x800, 3, api.Have, api.OK},
		{"\xED\x9F\xBF", 0, 0xD7FF, 3, api.Have, api.OK},
		{"\xEE\x80\x80", 0, 0xE000, 3, api.Have, api.OK},
		{"\xEF\xBF\xBF", 0, 0xFFFF, 3, api.Have, api.OK},
		{"\xF0\x90\x80\x80", 0, 0x10000, 4, api.Have, api.OK},
		{"\xF4\x8F\xBF\xBF", 0, 0x10FFFF, 4, api.Have, api.OK},
		// Characters cut off.
		{"\xC2", 0, 0, 1, api.Wait, api.OK},
		{"\xE2\x82", 0, 0, 2, api.Wait, api.OK},
		{"A\xE2", 1, 0, 1, api.Wait, api.OK},
		{"\xF0\x9F\x98", 0, 0, 3, api.Wait, api.OK},
		{"\xE2\x82A", 0, 0xFFFD, 1, api.Bad, api.OK},
		{"\xF0\x9F\x98A", 0, 0xFFFD, 1, api.Bad, api.OK},
		// Longer forms of lesser numbers.
		{"\xC0\x80", 0, 0xFFFD, 1, api.Bad, api.OK},
		{"\xC0", 0, 0xFFFD, 1, api.Bad, api.OK},
		{"\xC1\xBF", 0, 0xFFFD, 1, api.Bad, api.OK},
		{"\xE0\x80\x80", 0, 0xFFFD, 1, api.Bad, api.OK},
		{"\xE0\x9F", 0, 0xFFFD, 1, api.Bad, api.OK},
		{"\xF0\x8F\xBF\xBF", 0, 0xFFFD, 1, api.Bad, api.OK},
		{"\xF0\x80", 0, 0xFFFD, 1, api.Bad, api.OK},
		// Surrogates, and numbers above U+10FFFF.
		{"\xED\xA0", 0, 0xFFFD, 1, api.Bad, api.OK},
		{"\xED\xA0\x80", 0, 0xFFFD, 1, api.Bad, api.OK},
		{"\xED\xBF\xBF", 0, 0xFFFD, 1, api.Bad, api.OK},
		{"\xF4\x90", 0, 0xFFFD, 1, api.Bad, api.OK},
		{"\xF4\x90\x80\x80", 0, 0xFFFD, 1, api.Bad, api.OK},
		{"\xF5", 0, 0xFFFD, 1, api.Bad, api.OK},
		{"\x80", 0, 0xFFFD, 1, api.Bad, api.OK},
		{"\xFF", 0, 0xFFFD, 1, api.Bad, api.OK},
	} {
		r, width, how, e := runes.Next([]byte(c.b), c.at)
		if r != c.r || width != c.width || how != c.how || e != c.e {
			t.Errorf("Next(%x, %d) = %x, %d, %d, %d", c.b, c.at, r, width, how, e)
		}
	}
	if r, width, how, e := runes.Next(nil, 0); r != 0 || width != 0 || how != api.Done || e != api.OK {
		t.Errorf("Next(nil, 0) = %x, %d, %d, %d", r, width, how, e)
	}
}

// P1.2: the chapter's examples, and bytes that can't go on behind others that can.
func TestGoodExamples(t *testing.T) {
	for b, want := range map[string]int{
		"":                           0,
		"\xE2\x82":                   2,
		"\xE0\x80":                   1,
		"A\xFF":                      1,
		"\xF4\x90":                   1,
		"\xF4\x8F\xBF":               3,
		"\xF0\x9F\x98A":              3,
		"\xF0\x9F\x98\x80":           4,
		"\xF0\x9F\x98\x80\x80":       4,
		"\xED\xA0\x80":               1,
		"\xC0\x80":                   0,
		"\x80":                       0,
		"\xE2\x82\xACb":              4,
		"\xE2\x82A":                  2,
		"\xE2\x82\xE2\x82\xAC":       2,
		"a\xEF\xBF\xBDb\xC3":         6,
		"a\xEF\xBF\xBDb\xFFc\xC3":    5,
		"\u20ac\u20ac\u20ac\xE2\x82": 11,
	} {
		if n := runes.Good([]byte(b)); n != want {
			t.Errorf("Good(%x) = %d, want %d", b, n, want)
		}
	}
	if n := runes.Good(nil); n != 0 {
		t.Errorf("Good(nil) = %d", n)
	}
}

// P1.3: the chapter's examples, each width's edges, and runes that are no characters.
func TestPutExamples(t *testing.T) {
	for _, c := range []struct {
		b    string
		r    rune
		want string
	}{
		{"A", 0x20AC, "A\xE2\x82\xAC"},
		{"", 0, "\x00"},
		{"", 0x7F, "\x7F"},
		{"", 0x80, "\xC2\x80"},
		{"", 0x7FF, "\xDF\xBF"},
		{"", 0x800, "\xE0\xA0\x80"},
		{"", 0xD7FF, "\xED\x9F\xBF"},
		{"", 0xE000, "\xEE\x80\x80"},
		{"", 0xFFFF, "\xEF\xBF\xBF"},
		{"", 0x10000, "\xF0\x90\x80\x80"},
		{"", 0x10FFFF, "\xF4\x8F\xBF\xBF"},
		{"", 0xFFFD, "\xEF\xBF\xBD"},
		{"", 0xD800, "\xEF\xBF\xBD"},
		{"", 0xDFFF, "\xEF\xBF\xBD"},
		{"", 0x110000, "\xEF\xBF\xBD"},
		{"", -1, "\xEF\xBF\xBD"},
		{"", math.MinInt32, "\xEF\xBF\xBD"},
		{"", math.MaxInt32, "\xEF\xBF\xBD"},
		{"\xFF\xE2", 'x', "\xFF\xE2x"},
	} {
		if b := runes.Put([]byte(c.b), c.r); string(b) != c.want {
			t.Errorf("Put(%x, %x) = %x", c.b, c.r, b)
		}
	}
	if b := runes.Put(nil, 'x'); string(b) != "x" {
		t.Errorf("Put(nil, x) = %x", b)
	}
}

// P1.3, P1.9: neither the list that is handed in, nor its spare room, nor the answer's is shared.
func TestPutShares(t *testing.T) {
	b := append(make([]byte, 0, 16), "ab"...)
	list := runes.Put(b, 0x20AC)
	if !bytes.Equal(b[:cap(b)], append([]byte("ab"), make([]byte, 14)...)) {
		t.Errorf("Put wrote into what it was given: %x", b[:cap(b)])
	}
	other := runes.Put(b, 'x')
	for i := range list[:cap(list)] {
		list[:cap(list)][i] = 'Z'
	}
	if string(b) != "ab" || b[:3][2] != 0 || string(other) != "abx" {
		t.Errorf("the answer shares memory: %x, %x", b[:cap(b)], other)
	}
	b[0] = 'Y'
	if string(other) != "abx" {
		t.Errorf("the answer keeps what was given: %x", other)
	}
}

type spot struct {
	at int
	r  rune
}

func spots(s string) []spot {
	var list []spot
	for at, r := range runes.All(s) {
		list = append(list, spot{at, r})
	}
	return list
}

// P1.4: the chapter's example, and U+FFFD that is written out beside wrong bytes.
func TestAllExamples(t *testing.T) {
	for _, c := range []struct {
		s    string
		want []spot
	}{
		{"", nil},
		{"A\xFF\xE2\x82B", []spot{{0, 'A'}, {1, 0xFFFD}, {2, 0xFFFD}, {3, 0xFFFD}, {4, 'B'}}},
		{"\xEF\xBF\xBD\xFFx", []spot{{0, 0xFFFD}, {3, 0xFFFD}, {4, 'x'}}},
		{"\u00e9\U0001F600\x00", []spot{{0, 0xE9}, {2, 0x1F600}, {6, 0}}},
	} {
		if list := spots(c.s); !slices.Equal(list, c.want) {
			t.Errorf("All(%x) = %v", c.s, list)
		}
	}
}

// P1.4 and the rule of iterators: gone through more than once, stopped early, nested.
func TestAllAgain(t *testing.T) {
	all := runes.All("a\u20ac\xFF")
	want := []int{0, 1, 4}
	for range 2 {
		var list []int
		for at := range all {
			list = append(list, at)
		}
		if !slices.Equal(list, want) {
			t.Errorf("places %v", list)
		}
	}
	seen := 0
	for at := range all {
		seen++
		if at > 0 {
			break
		}
	}
	if seen != 2 {
		t.Errorf("stopped behind %d", seen)
	}
	var pairs [][2]int
	for at := range all {
		for in := range all {
			pairs = append(pairs, [2]int{at, in})
		}
	}
	if len(pairs) != 9 || pairs[1] != [2]int{0, 1} || pairs[8] != [2]int{4, 4} {
		t.Errorf("nested: %v", pairs)
	}
}

// P1.4: Go's conversions, of what is no character, too.
func TestRunesAndJoinExamples(t *testing.T) {
	if list := runes.Runes("A\xFF\xE2\x82B\u20ac"); !slices.Equal(list, []rune{'A', 0xFFFD, 0xFFFD, 0xFFFD, 'B', 0x20AC}) {
		t.Errorf("Runes = %x", list)
	}
	if list := runes.Runes(""); len(list) != 0 {
		t.Errorf("Runes of nothing = %x", list)
	}
	s := runes.Join([]rune{'a', 0xD800, 0xDFFF, -5, 0x110000, math.MaxInt32, 0x20AC, 0, 0x10FFFF})
	if want := "a\uFFFD\uFFFD\uFFFD\uFFFD\uFFFD\u20AC\x00\U0010FFFF"; s != want {
		t.Errorf("Join = %x, want %x", s, want)
	}
	if runes.Join(nil) != "" || runes.Join([]rune{}) != "" {
		t.Error("Join of nothing")
	}
}

// P1.9: what is told is new, and hangs no more on what was handed in.
func TestRunesAndJoinShare(t *testing.T) {
	one, two := runes.Runes("abc"), runes.Runes("abc")
	for i := range one[:cap(one)] {
		one[:cap(one)][i] = 'Z'
	}
	if string(two) != "abc" || string(runes.Runes("abc")) != "abc" {
		t.Errorf("two answers share memory: %q", string(two))
	}
	list := append(make([]rune, 0, 8), 'a', 0xD800)
	s := runes.Join(list)
	if !slices.Equal(list[:cap(list)], []rune{'a', 0xD800, 0, 0, 0, 0, 0, 0}) {
		t.Errorf("Join changed what it was given: %x", list[:cap(list)])
	}
	list[0] = 'Z'
	if s != "a\uFFFD" {
		t.Errorf("Join's answer changed: %q", s)
	}
}

// P1.5: the chapter's examples, and pieces next to one another.
func TestMendExamples(t *testing.T) {
	f := "\xEF\xBF\xBD"
	for _, c := range []struct{ s, all, parts string }{
		{"", "", ""},
		{"\xE2\x82A", f + f + "A", f + "A"},
		{"\xF0\x9F\x98A", f + f + f + "A", f + "A"},
		{"\xE0\x80A", f + f + "A", f + f + "A"},
		{"\xED\xA0\x80", f + f + f, f + f + f},
		{"\xE2\x82", f + f, f},
		{"\xE2\x82\xE2\x82\xAC", f + f + "\u20AC", f + "\u20AC"},
		{"\xE2\xE2\xE2", f + f + f, f + f + f},
		{"\xF0\x9F\xF0\x9F\x98", f + f + f + f + f, f + f},
		{"\xF4\x90\x80", f + f + f, f + f + f},
		{"\xC0\x80", f + f, f + f},
		{"\xFF\xFE", f + f, f + f},
		{f + "\xE2\x82" + f, f + f + f + f, f + f + f},
		{"\x80" + f + "\x80", f + f + f, f + f + f},
		{"a\u00e9\u20AC\U0001F600\x00", "a\u00e9\u20AC\U0001F600\x00", "a\u00e9\u20AC\U0001F600\x00"},
	} {
		if all := runes.Mend(c.s); all != c.all {
			t.Errorf("Mend(%x) = %x", c.s, all)
		}
		if parts := runes.MendParts(c.s); parts != c.parts {
			t.Errorf("MendParts(%x) = %x", c.s, parts)
		}
	}
}

// P1.9: a text that needs no mending is answered as new memory, too.
func TestMendShares(t *testing.T) {
	s := string(bytes.Repeat([]byte("a\u20AC"), 20))
	for _, out := range []string{runes.Mend(s), runes.MendParts(s)} {
		if out != s || unsafe.StringData(out) == unsafe.StringData(s) {
			t.Errorf("the answer is what was given")
		}
	}
}

// P1.6: the chapter's examples, all line ends, characters cut by the place, and places that are none.
func TestAtExamples(t *testing.T) {
	for _, c := range []struct {
		b    string
		at   int
		want api.Place
		e    api.Errno
	}{
		{"a\r\nb", 0, api.Place{Byte: 0, Rune: 0, Line: 1, Column: 1}, api.OK},
		{"a\r\nb", 2, api.Place{Byte: 2, Rune: 2, Line: 1, Column: 3}, api.OK},
		{"a\r\nb", 3, api.Place{Byte: 3, Rune: 3, Line: 2, Column: 1}, api.OK},
		{"a\r\nb", 4, api.Place{Byte: 4, Rune: 4, Line: 2, Column: 2}, api.OK},
		{"a\rb", 2, api.Place{Byte: 2, Rune: 2, Line: 2, Column: 1}, api.OK},
		{"a\r", 2, api.Place{Byte: 2, Rune: 2, Line: 2, Column: 1}, api.OK},
		{"\r\r\nx", 1, api.Place{Byte: 1, Rune: 1, Line: 2, Column: 1}, api.OK},
		{"\r\r\nx", 2, api.Place{Byte: 2, Rune: 2, Line: 2, Column: 2}, api.OK},
		{"\r\r\nx", 4, api.Place{Byte: 4, Rune: 4, Line: 3, Column: 2}, api.OK},
		{"\n\r\n\n", 4, api.Place{Byte: 4, Rune: 4, Line: 4, Column: 1}, api.OK},
		{"\u0085\u2028x", 6, api.Place{Byte: 6, Rune: 3, Line: 1, Column: 4}, api.OK},
		{"\xE2\x82\xAC", 2, api.Place{Byte: 2, Rune: 2, Line: 1, Column: 3}, api.OK},
		{"\xE2\x82\xAC", 3, api.Place{Byte: 3, Rune: 1, Line: 1, Column: 2}, api.OK},
		{"\n\xFF\xE2\x82\n\u00e9", 7, api.Place{Byte: 7, Rune: 6, Line: 3, Column: 2}, api.OK},
		{"", 0, api.Place{Byte: 0, Rune: 0, Line: 1, Column: 1}, api.OK},
		{"", 1, api.Place{}, api.ErrRange},
		{"ab", 3, api.Place{}, api.ErrRange},
		{"ab", -1, api.Place{}, api.ErrRange},
		{"ab", math.MinInt, api.Place{}, api.ErrRange},
		{"ab", math.MaxInt, api.Place{}, api.ErrRange},
	} {
		if place, e := runes.At([]byte(c.b), c.at); place != c.want || e != c.e {
			t.Errorf("At(%q, %d) = %v, %d", c.b, c.at, place, e)
		}
	}
	if place, e := runes.At(nil, 0); place != (api.Place{Line: 1, Column: 1}) || e != api.OK {
		t.Errorf("At(nil, 0) = %v, %d", place, e)
	}
}

// P1.7: the chapter's examples, wrong bytes, and numbers of no character.
func TestByteExamples(t *testing.T) {
	for _, c := range []struct {
		s      string
		number int
		want   int
		e      api.Errno
	}{
		{"A\u20ACB", 0, 0, api.OK},
		{"A\u20ACB", 1, 1, api.OK},
		{"A\u20ACB", 2, 4, api.OK},
		{"A\u20ACB", 3, 5, api.OK},
		{"A\u20ACB", 4, 0, api.ErrRange},
		{"A\u20ACB", -1, 0, api.ErrRange},
		{"A\u20ACB", math.MinInt, 0, api.ErrRange},
		{"A\u20ACB", math.MaxInt, 0, api.ErrRange},
		{"\xE2\x82\xFFx", 3, 3, api.OK},
		{"\xE2\x82\xFFx", 4, 4, api.OK},
		{"\xE2\x82\xFFx", 5, 0, api.ErrRange},
		{"", 0, 0, api.OK},
		{"", 1, 0, api.ErrRange},
		{"", -1, 0, api.ErrRange},
	} {
		if at, e := runes.Byte(c.s, c.number); at != c.want || e != c.e {
			t.Errorf("Byte(%x, %d) = %d, %d", c.s, c.number, at, e)
		}
	}
}

type taken struct {
	x       byte
	r       rune
	how     api.How
	pending int
}

func takeAll(t *testing.T, d *runes.Decoder, list []taken) {
	t.Helper()
	for i, c := range list {
		if r, how := d.Take(c.x); r != c.r || how != c.how || d.Pending() != c.pending {
			t.Errorf("byte %d, %x: %x, %d, then %d pending", i, c.x, r, how, d.Pending())
		}
	}
}

// P1.8: the chapter's example, and Bad at each byte of a character: behind it nothing is taken.
func TestDecoderExamples(t *testing.T) {
	for _, list := range [][]taken{
		{{0xE2, 0, api.Wait, 1}, {0x82, 0, api.Wait, 2}, {0xAC, 0x20AC, api.Have, 0}, {0x80, 0, api.Bad, 0}, {0x41, 0, api.Bad, 0}},
		{{0, 0, api.Have, 0}, {0xC3, 0, api.Wait, 1}, {0xA9, 0xE9, api.Have, 0}, {'a', 'a', api.Have, 0}},
		{{0xF0, 0, api.Wait, 1}, {0x9F, 0, api.Wait, 2}, {0x98, 0, api.Wait, 3}, {0x80, 0x1F600, api.Have, 0}, {0xF5, 0, api.Bad, 0}},
		{{0xF0, 0, api.Wait, 1}, {0x9F, 0, api.Wait, 2}, {0x98, 0, api.Wait, 3}, {0x41, 0, api.Bad, 3}, {0x80, 0, api.Bad, 3}},
		{{0xF4, 0, api.Wait, 1}, {0x90, 0, api.Bad, 1}, {0x8F, 0, api.Bad, 1}},
		{{0xED, 0, api.Wait, 1}, {0xA0, 0, api.Bad, 1}},
		{{0xE0, 0, api.Wait, 1}, {0x80, 0, api.Bad, 1}},
		{{0xEF, 0, api.Wait, 1}, {0xBF, 0, api.Wait, 2}, {0xBD, 0xFFFD, api.Have, 0}},
		{{0xC0, 0, api.Bad, 0}, {'a', 0, api.Bad, 0}},
	} {
		d := runes.New()
		if d.Pending() != 0 {
			t.Errorf("%d pending at first", d.Pending())
		}
		takeAll(t, d, list)
	}
}

// P1.8, P1.9: a nil Decoder answers; two Decoders know nothing of one another; one that New did not make does not panic.
func TestDecoderObjects(t *testing.T) {
	var none *runes.Decoder
	for x := range 256 {
		if r, how := none.Take(byte(x)); r != 0 || how != api.Have || none.Pending() != 0 {
			t.Fatalf("a nil Decoder at %x: %x, %d", x, r, how)
		}
	}
	one, two := runes.New(), runes.New()
	takeAll(t, one, []taken{{0xE2, 0, api.Wait, 1}})
	takeAll(t, two, []taken{{0xFF, 0, api.Bad, 0}})
	takeAll(t, one, []taken{{0x82, 0, api.Wait, 2}, {0xAC, 0x20AC, api.Have, 0}})
	var other runes.Decoder
	for range 9 {
		other.Take(0xF0)
		other.Pending()
	}
}

// P1.9: what reads bytes leaves them, and their spare room, as they are.
func TestReadersChangeNothing(t *testing.T) {
	room := []byte("a\r\n\xE2\x82\xACb\xF0\x9F\xFFspare")
	before := bytes.Clone(room)
	b := room[:10]
	for at := -1; at <= len(b)+1; at++ {
		runes.Next(b, at)
		runes.At(b, at)
	}
	runes.Good(b)
	if !bytes.Equal(room, before) {
		t.Errorf("changed to %x", room)
	}
}
