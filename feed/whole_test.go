package feed_test

import (
	"strings"
	"testing"
	"unicode/utf8"

	"gimlet/api"
	"gimlet/feed"
	"gimlet/runes"
)

// What follows holds a Feed against the document's own words, over all short texts of the bytes at which something changes, in all cuts into pieces.

// begun: all beginnings of characters.
type begun map[string]int

func beginnings() begun {
	list := begun{}
	for r := rune(0); r <= utf8.MaxRune; r++ {
		if !utf8.ValidRune(r) {
			continue
		}
		s := string(r)
		for n := 1; n < len(s); n++ {
			list[s[:n]]++
		}
	}
	return list
}

// words is what the document's words are about.
type words struct {
	begun begun
	all   []byte // all that were pushed
	taken int    // bytes
	ended bool
}

func (w *words) at(byte int) api.Place {
	p, _ := runes.At(w.all, byte)
	return p
}

// known: the next character, if it is known to be there.
func (w *words) known() (api.Char, bool) {
	lie := w.all[w.taken:]
	c := api.Char{At: w.at(w.taken)}
	if len(lie) == 0 {
		return api.Char{}, false
	}
	if lie[0] == 0x0D {
		c.Rune, c.Width = 0x0A, 1
		if len(lie) == 1 {
			return c, w.ended
		}
		if lie[1] == 0x0A {
			c.Width = 2
		}
		return c, true
	}
	c.Rune, c.Width = utf8.DecodeRune(lie)
	return c, string(lie[:c.Width]) == string(c.Rune)
}

// firstWrong: the byte with which no character's bytes go on, if there is one. No character lies there whole.
func (w *words) firstWrong() (int, bool) {
	lie := w.all[w.taken:]
	if string(lie) == "\r" {
		return 0, false
	}
	for n := range lie {
		if w.begun[string(lie[:n+1])] == 0 {
			return w.taken + n, true
		}
	}
	return 0, false
}

// peek: P4.2.
func (w *words) peek() (api.Char, api.How) {
	if c, ok := w.known(); ok {
		return c, api.Have
	}
	if n, ok := w.firstWrong(); ok {
		return api.Char{At: w.at(n)}, api.Bad
	}
	if w.ended && w.taken < len(w.all) {
		return api.Char{At: w.at(len(w.all))}, api.Bad
	}
	if w.ended {
		return api.Char{}, api.Done
	}
	return api.Char{}, api.Wait
}

// next: P4.3.
func (w *words) next() (api.Char, api.How) {
	c, how := w.peek()
	if how == api.Have {
		w.taken += c.Width
	}
	return c, how
}

// rest: P4.5.
func (w *words) rest() string {
	all := *w
	for {
		switch _, how := all.next(); how {
		case api.Have:
		case api.Wait:
			return string(all.all[all.taken:])
		default:
			return ""
		}
	}
}

// same: all that can be asked, of both.
func same(t *testing.T, f *feed.Feed, w *words) {
	t.Helper()
	c, how := w.peek()
	if d, h := f.Peek(); d != c || h != how {
		t.Fatalf("P4.2: of %x, %d taken, %t: Peek() = %v, %d, want %v, %d", w.all, w.taken, w.ended, d, h, c, how)
	}
	if at, want := f.Place(), w.at(w.taken); at != want {
		t.Fatalf("P4.4: of %x, %d taken, %t: Place() = %v, want %v", w.all, w.taken, w.ended, at, want)
	}
	if b, want := f.Rest(), w.rest(); string(b) != want {
		t.Fatalf("P4.5: of %x, %d taken, %t: Rest() = %x, want %x", w.all, w.taken, w.ended, b, want)
	}
}

// takeUpTo so many, of both.
func takeUpTo(t *testing.T, f *feed.Feed, w *words, most int) {
	t.Helper()
	for range most {
		c, how := w.next()
		if d, h := f.Next(); d != c || h != how {
			t.Fatalf("P4.3: of %x, %d taken, %t: Next() = %v, %d, want %v, %d", w.all, w.taken, w.ended, d, h, c, how)
		}
		same(t, f, w)
		if how != api.Have {
			return
		}
	}
}

// cutEachWay gives s in all cuts into pieces that aren't empty; of each also with empty ones between.
func cutEachWay(s string, tell func(pieces []string)) {
	for cut := range 1 << max(0, len(s)-1) {
		var pieces, wide []string
		from := 0
		for i := 1; i <= len(s); i++ {
			if i == len(s) || cut>>(i-1)&1 == 1 {
				pieces = append(pieces, s[from:i])
				wide = append(wide, "", s[from:i], "")
				from = i
			}
		}
		tell(pieces)
		tell(wide)
	}
}

// goThrough: the pieces pushed and the end told, and behind each at most so many taken.
func goThrough(t *testing.T, b begun, pieces []string, most int) {
	t.Helper()
	f, w := feed.New(), &words{begun: b}
	same(t, f, w)
	for _, s := range pieces {
		push(t, f, s)
		w.all = append(w.all, s...)
		same(t, f, w)
		takeUpTo(t, f, w, most)
	}
	end(t, f)
	w.ended = true
	same(t, f, w)
	takeUpTo(t, f, w, len(w.all)+2)
}

// textsOf: all texts of up to so many of these pieces.
func textsOf(pieces []string, most int) []string {
	list := []string{""}
	for from := 0; most > 0; most-- {
		for _, s := range list[from:] {
			from++
			for _, p := range pieces {
				list = append(list, s+p)
			}
		}
	}
	return list
}

// P4.1 to P4.6: taken as soon as can be, one by one behind each piece, and only at the end.
func TestAllCuts(t *testing.T) {
	b := beginnings()
	few := textsOf(strings.Split("A \r \n \xC3 \xE2 \x82 \xAC \xFF", " "), 4)
	ends := textsOf([]string{"\r", "\n", "a", "\xE2\x82"}, 5)
	wide := textsOf([]string{"\r", "\n", "é", "\U0001F600", "\xF0\x90", "\x80"}, 3)
	for _, list := range [][]string{few, ends, wide} {
		for _, s := range list {
			if len(s) > 7 {
				continue
			}
			cutEachWay(s, func(pieces []string) {
				for _, most := range []int{0, 1, len(s) + 1} {
					goThrough(t, b, pieces, most)
				}
			})
		}
	}
}

// P4.2, P4.5: two bytes of all kinds, and a third and fourth one at the edges of UTF-8.
func TestAllBytes(t *testing.T) {
	b := beginnings()
	edges := "\r\n\x7F\x80\x8F\x90\x9F\xA0\xBF\xC2\xED\xF4"
	for x := range 256 {
		goThrough(t, b, []string{string([]byte{byte(x)})}, 3)
		for y := range 256 {
			two := string([]byte{byte(x), byte(y)})
			goThrough(t, b, []string{two[:1], two[1:]}, 3)
			goThrough(t, b, []string{"\r" + two}, 4)
			if utf8.ValidString(two) || x < 0xC2 {
				continue
			}
			for i := range len(edges) {
				goThrough(t, b, []string{two, edges[i : i+1], "\x80"}, 4)
				goThrough(t, b, []string{two + edges[i:i+1] + "\xBF"}, 4)
			}
		}
	}
}

// P4.6, P7: what Next answers up to the first Bad or Done is the same in all cuts.
func TestCutsChangeNothing(t *testing.T) {
	for _, s := range []string{"é\r\n\u20ac\rA", "\r\r\n\n\r", "a\U0001F600\r\xE2\x82", "\r\xE2\x82\xFFa\r\n"} {
		want := answers(t, []string{s})
		cutEachWay(s, func(pieces []string) {
			if got := answers(t, pieces); got != want {
				t.Fatalf("P4.6: %x: %v, want %v", pieces, got, want)
			}
		})
	}
}

// answer is one of Next's answers; a list of them that can be compared by ==.
type answer struct {
	c   api.Char
	how api.How
}

func answers(t *testing.T, pieces []string) [16]answer {
	t.Helper()
	var list [16]answer
	n := 0
	f := feed.New()
	for i := 0; i <= len(pieces); i++ {
		if i < len(pieces) {
			push(t, f, pieces[i])
		} else {
			end(t, f)
		}
		for {
			c, how := f.Next()
			if how != api.Wait {
				list[n] = answer{c, how}
				n++
			}
			if how == api.Bad || how == api.Done {
				return list
			}
			if how == api.Wait {
				break
			}
		}
	}
	return list
}
