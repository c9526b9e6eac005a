package runes_test

import (
	"bytes"
	"strings"
	"testing"
	"unicode/utf8"

	"gimlet/api"
	"gimlet/runes"
)

// What follows holds the calls against the document's own words, over all characters and over all short strings of the bytes at which something changes.

const (
	edgeBytes = "\x00\n\rA\x7F\x80\x8F\x90\x9F\xA0\xBD\xBF\xC0\xC1\xC2\xDF\xE0\xE1\xED\xEE\xEF\xF0\xF1\xF4\xF5\xFF"
	last      = 0x10FFFF
)

// isCharacter: DOC.md, 'Words'.
func isCharacter(r rune) bool { return r >= 0 && r <= last && (r < 0xD800 || r > 0xDFFF) }

// beginnings: what stands ahead in some character's bytes without being all of them.
func beginnings() map[string]bool {
	set := map[string]bool{}
	for r := rune(0); r <= last; r++ {
		if s := string(r); isCharacter(r) {
			for n := 1; n < len(s); n++ {
				set[s[:n]] = true
			}
		}
	}
	return set
}

// eachEdge: all strings of up to so many of the edges' bytes.
func eachEdge(longest int, do func(s string)) {
	var grow func(s string)
	grow = func(s string) {
		do(s)
		if len(s) < longest {
			for i := range len(edgeBytes) {
				grow(s + edgeBytes[i:i+1])
			}
		}
	}
	grow("")
}

type answer struct {
	r     rune
	width int
	how   api.How
}

// nextByWords: P1.1 of all of s, at 0.
func nextByWords(s string, begins map[string]bool) answer {
	if s == "" {
		return answer{0, 0, api.Done}
	}
	if begins[s] {
		return answer{0, len(s), api.Wait}
	}
	for n := 1; n <= len(s); n++ {
		if list := []rune(s[:n]); utf8.ValidString(s[:n]) && len(list) == 1 {
			return answer{list[0], n, api.Have}
		}
	}
	return answer{0xFFFD, 1, api.Bad}
}

// goodByWords: P1.2.
func goodByWords(s string, begins map[string]bool) int {
	for n := len(s); n > 0; n-- {
		for cut := n; cut >= 0; cut-- {
			if utf8.ValidString(s[:cut]) && (cut == n || begins[s[cut:n]]) {
				return n
			}
		}
	}
	return 0
}

// partsByWords: P1.5.
func partsByWords(s string, begins map[string]bool) string {
	out := ""
	for s != "" {
		_, width := utf8.DecodeRuneInString(s)
		if utf8.ValidString(s[:width]) {
			out, s = out+s[:width], s[width:]
			continue
		}
		n := min(len(s), 3)
		for n > 1 && !begins[s[:n]] {
			n--
		}
		out, s = out+"\uFFFD", s[n:]
	}
	return out
}

// atByWords: P1.6.
func atByWords(s string, at int) api.Place {
	line, since := 1, 0
	for i := range at {
		if s[i] == '\n' || s[i] == '\r' && !strings.HasPrefix(s[i+1:], "\n") {
			line, since = line+1, i+1
		}
	}
	return api.Place{Byte: at, Rune: len([]rune(s[:at])), Line: line, Column: 1 + len([]rune(s[since:at]))}
}

// P1.1, P1.2, P1.3, P1.8, P7: each character, whole and cut anywhere.
func TestEachCharacter(t *testing.T) {
	for r := rune(-3); r <= last+3; r++ {
		b := runes.Put(nil, r)
		if string(b) != string(r) {
			t.Fatalf("Put(%x) = %x", r, b)
		}
		if !isCharacter(r) {
			continue
		}
		if x, width, how, e := runes.Next(b, 0); x != r || width != len(b) || how != api.Have || e != api.OK {
			t.Fatalf("Next(%x) = %x, %d, %d, %d", b, x, width, how, e)
		}
		d := runes.New()
		for n := 1; n < len(b); n++ {
			if x, width, how, _ := runes.Next(b[:n], 0); x != 0 || width != n || how != api.Wait {
				t.Fatalf("Next(%x) = %x, %d, %d", b[:n], x, width, how)
			}
			if n := runes.Good(b[:n]); n != len(b[:n]) {
				t.Fatalf("Good(%x) = %d", b[:n], n)
			}
			if x, how := d.Take(b[n-1]); x != 0 || how != api.Wait || d.Pending() != n {
				t.Fatalf("Take of %x: %x, %d, then %d pending", b[:n], x, how, d.Pending())
			}
		}
		if x, how := d.Take(b[len(b)-1]); x != r || how != api.Have || d.Pending() != 0 {
			t.Fatalf("Take of %x: %x, %d, then %d pending", b, x, how, d.Pending())
		}
	}
}

// P7: the order by bytes is the order by characters.
func TestOrder(t *testing.T) {
	before := runes.Put(nil, 0)
	for r := rune(1); r <= last; r++ {
		if !isCharacter(r) {
			continue
		}
		b := runes.Put(nil, r)
		// Neither begins with the other, so that nothing behind them turns the order about.
		if bytes.Compare(before, b) >= 0 || bytes.HasPrefix(b, before) {
			t.Fatalf("%x isn't ahead of %x", before, b)
		}
		before = b
	}
}

// P1.1, P1.2, P1.5: against the document's words.
func TestEdgesByWords(t *testing.T) {
	begins := beginnings()
	eachEdge(4, func(s string) {
		r, width, how, e := runes.Next([]byte(s), 0)
		if want := nextByWords(s, begins); (answer{r, width, how}) != want || e != api.OK {
			t.Fatalf("Next(%x) = %x, %d, %d, %d", s, r, width, how, e)
		}
		if n, want := runes.Good([]byte(s)), goodByWords(s, begins); n != want {
			t.Fatalf("Good(%x) = %d, want %d", s, n, want)
		}
		if out, want := runes.MendParts(s), partsByWords(s, begins); out != want {
			t.Fatalf("MendParts(%x) = %x, want %x", s, out, want)
		}
	})
}

// P1.4, P1.5, P1.7, P7: against Go's own range and conversions.
func TestEdgesByGo(t *testing.T) {
	eachEdge(4, func(s string) {
		list := spots(s)
		count := 0
		for at, r := range s {
			if count >= len(list) || list[count] != (spot{at, r}) {
				t.Fatalf("All(%x) = %v", s, list)
			}
			if place, e := runes.Byte(s, count); place != at || e != api.OK {
				t.Fatalf("Byte(%x, %d) = %d, %d", s, count, place, e)
			}
			count++
		}
		if len(list) != count {
			t.Fatalf("All(%x) = %v", s, list)
		}
		if at, e := runes.Byte(s, count); at != len(s) || e != api.OK {
			t.Fatalf("Byte(%x, %d) = %d, %d", s, count, at, e)
		}
		if at, e := runes.Byte(s, count+1); at != 0 || e != api.ErrRange {
			t.Fatalf("Byte(%x, %d) = %d, %d", s, count+1, at, e)
		}
		whole := string([]rune(s))
		if string(runes.Runes(s)) != whole || runes.Join([]rune(s)) != whole || runes.Mend(s) != whole {
			t.Fatalf("Runes, Join, Mend of %x", s)
		}
	})
}

// P1.6: against the document's words, at every place.
func TestEdgesAt(t *testing.T) {
	eachEdge(3, func(s string) {
		for _, b := range []string{s, s + "\n", "\r" + s} {
			for at := range len(b) + 1 {
				if place, e := runes.At([]byte(b), at); place != atByWords(b, at) || e != api.OK {
					t.Fatalf("At(%x, %d) = %v, %d", b, at, place, e)
				}
			}
		}
	})
}

// P1.8, P7: byte by byte a Decoder gives what Next gives of all of them, and takes as many as Good says.
func TestEdgesDecoder(t *testing.T) {
	eachEdge(4, func(s string) {
		b := []byte(s)
		d := runes.New()
		var got []rune
		took, since, bad := 0, 0, false
		for _, x := range b {
			r, how := d.Take(x)
			if how == api.Bad {
				bad = true
			} else {
				took++
				since++
			}
			if how == api.Have {
				got = append(got, r)
				since = 0
			} else if r != 0 {
				t.Fatalf("Take of %x, in %x: %x, %d", x, s, r, how)
			}
			if bad != (how == api.Bad) || d.Pending() != since {
				t.Fatalf("Take of %x, in %x: %d, then %d pending", x, s, how, d.Pending())
			}
		}
		if took != runes.Good(b) || bad != (took < len(b)) {
			t.Fatalf("%x: %d taken", s, took)
		}
		if want := s[:took-since]; string(got) != want {
			t.Fatalf("%x: %x", s, string(got))
		}
	})
}
