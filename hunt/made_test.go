package hunt_test

import (
	"fmt"
	"math/rand/v2"
	"slices"
	"testing"

	"gimlet/api"
	"gimlet/hunt"
)

// What follows makes Hunts, and says by the document's own words what they should answer.

const (
	F = api.False
	U = api.Unknown
	T = api.True
)

func letter(v api.Truth) string {
	if v < F || v > T {
		return fmt.Sprint("<", int(v), ">")
	}
	return "FUT"[v : v+1]
}

// asked is what New takes.
type asked struct {
	c      api.Compare
	text   string
	number int
}

func (a asked) String() string {
	return fmt.Sprintf("%s %q %d", []string{"Exists", "Equal", "Unequal", "Begins", "Ends", "Contains", "LengthIs", "Longer", "Shorter"}[a.c], a.text, a.number)
}

// every: each comparison once, all with this text and this number.
func every(text string, number int) []asked {
	var list []asked
	for c := api.Exists; c <= api.Shorter; c++ {
		list = append(list, asked{c, text, number})
	}
	return list
}

func made(t testing.TB, a asked) *hunt.Hunt {
	t.Helper()
	h, e := hunt.New(a.c, a.text, a.number)
	if h == nil || e != api.OK {
		t.Fatalf("P16.1: New(%v): %v, %d", a, h, e)
	}
	return h
}

// isFront: is the first list a beginning of the other?
func isFront(front, list []rune) bool {
	return len(front) <= len(list) && slices.Equal(front, list[:len(front)])
}

// isBack: is the first list an end of the other?
func isBack(back, list []rune) bool {
	return len(back) <= len(list) && slices.Equal(back, list[len(list)-len(back):])
}

// stands: does the first list stand anywhere in the other?
func stands(text, list []rune) bool {
	for n := range len(list) + 1 {
		if isFront(text, list[n:]) {
			return true
		}
	}
	return false
}

func when(holds bool, v api.Truth) api.Truth {
	if holds {
		return v
	}
	return U
}

// coming: P16.3.
func (a asked) coming(came []rune) api.Truth {
	text := []rune(a.text)
	switch a.c {
	case api.Exists:
		return T
	case api.Equal:
		return when(!isFront(came, text), F)
	case api.Unequal:
		return when(!isFront(came, text), T)
	case api.Begins:
		if isFront(text, came) {
			return T
		}
		return when(!isFront(came, text), F)
	case api.Contains:
		return when(stands(text, came), T)
	case api.LengthIs:
		return when(len(came) > a.number, F)
	case api.Longer:
		return when(len(came) > a.number, T)
	case api.Shorter:
		return when(len(came) >= a.number, F)
	}
	return U
}

// ended: P16.4.
func (a asked) ended(came []rune) api.Truth {
	if a.holds([]rune(a.text), came) {
		return T
	}
	return F
}

func (a asked) holds(text, came []rune) bool {
	switch a.c {
	case api.Equal:
		return slices.Equal(came, text)
	case api.Unequal:
		return !slices.Equal(came, text)
	case api.Begins:
		return isFront(text, came)
	case api.Ends:
		return isBack(text, came)
	case api.Contains:
		return stands(text, came)
	case api.LengthIs:
		return len(came) == a.number
	case api.Longer:
		return len(came) > a.number
	case api.Shorter:
		return len(came) < a.number
	}
	return true
}

// trial is a Hunt beside all characters that came.
type trial struct {
	asked
	h      *hunt.Hunt
	came   []rune
	pieces []string
	known  api.Truth
	most   int // what Kept may be
}

func newTrial(t testing.TB, a asked) *trial {
	t.Helper()
	x := &trial{asked: a, h: made(t, a), known: U, most: len([]rune(a.text)) + 4}
	x.need(t, a.coming(nil))
	return x
}

// add: P16.2, P16.3, of one more piece.
func (x *trial) add(t testing.TB, s string) {
	t.Helper()
	if e := x.h.Add(s); e != api.OK {
		t.Fatalf("P16.2: %v: Add(%q) behind %q: %d", x.asked, s, x.pieces, e)
	}
	x.pieces = append(x.pieces, s)
	for _, r := range s {
		x.came = append(x.came, r)
	}
	x.need(t, x.coming(x.came))
}

// end: P16.2, P16.4.
func (x *trial) end(t testing.TB) {
	t.Helper()
	if e := x.h.Close(); e != api.OK {
		t.Fatalf("P16.2: %v: Close behind %q: %d", x.asked, x.pieces, e)
	}
	x.need(t, x.ended(x.came))
}

// need: the Truth is this one, it is no other than what was known before (P16.5), and Kept is within its bound (P16.6).
func (x *trial) need(t testing.TB, want api.Truth) {
	t.Helper()
	v := x.h.Truth()
	if v != want || x.h.Truth() != v {
		t.Fatalf("P16.3, P16.4: %v: %s behind %q, want %s", x.asked, letter(v), x.pieces, letter(want))
	}
	if x.known != U && v != x.known {
		t.Fatalf("P16.5: %v: %s behind %q, known was %s", x.asked, letter(v), x.pieces, letter(x.known))
	}
	x.known = v
	if n := x.h.Kept(); n < 0 || n > x.most {
		t.Fatalf("P16.6: %v: Kept %d behind %q", x.asked, n, x.pieces)
	}
}

// tried: a Hunt from its beginning to its end, with these pieces.
func tried(t testing.TB, a asked, pieces ...string) {
	t.Helper()
	x := newTrial(t, a)
	for _, s := range pieces {
		x.add(t, s)
	}
	x.end(t)
}

// listsOf: all lists of just that many of these pieces.
func listsOf(pieces []string, many int) [][]string {
	lists := [][]string{nil}
	for range many {
		var longer [][]string
		for _, list := range lists {
			for _, p := range pieces {
				longer = append(longer, append(slices.Clone(list), p))
			}
		}
		lists = longer
	}
	return lists
}

// textsOf: all texts of up to so many of these pieces.
func textsOf(pieces []string, most int) []string {
	var texts []string
	for many := range most + 1 {
		for _, list := range listsOf(pieces, many) {
			text := ""
			for _, s := range list {
				text += s
			}
			texts = append(texts, text)
		}
	}
	return texts
}

// bytesOf: the text's bytes, a piece each.
func bytesOf(s string) []string {
	var list []string
	for i := range len(s) {
		list = append(list, s[i:i+1])
	}
	return list
}

// charactersOf: the text's characters, a piece each.
func charactersOf(s string) []string {
	var list []string
	at := 0
	for next := range s {
		if next > 0 {
			list = append(list, s[at:next])
		}
		at = next
	}
	if s != "" {
		list = append(list, s[at:])
	}
	return list
}

// maker makes things by chance, the same ones each time.
type maker struct{ r *rand.Rand }

func newMaker(seed uint64) maker { return maker{rand.New(rand.NewPCG(seed, 16))} }

func pick[E any](m maker, list []E) E { return list[m.r.IntN(len(list))] }

// letters: those of which a text is made: few, so that texts come again in one another.
func (m maker) letters() []string {
	return pick(m, [][]string{
		{"a", "b"}, {"a", "a", "a", "b"}, {"a", "é"}, {"é", "è"}, {"€", "\U0001F600", "x"}, {"\xFF", "\uFFFD", "a"}, {"\xC3", "\xA9", "é"}, {"\xE2", "\x82", "\xAC", "€"}, {"\x00", "\n"},
	})
}

func (m maker) text(letters []string, most int) string {
	s := ""
	for range m.r.IntN(most + 1) {
		s += pick(m, letters)
	}
	return s
}

// cut: the text in pieces, some of them empty; anywhere, or at characters' ends alone.
func (m maker) cut(s string, anywhere bool) []string {
	small := charactersOf(s)
	if anywhere {
		small = bytesOf(s)
	}
	piece, one := "", 2+m.r.IntN(7)
	var list []string
	for _, p := range small {
		piece += p
		for m.r.IntN(one) == 0 {
			list = append(list, piece)
			piece = ""
		}
	}
	return append(list, piece)
}
