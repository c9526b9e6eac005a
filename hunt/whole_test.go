package hunt_test

import (
	"slices"
	"strings"
	"testing"

	"gimlet/api"
	"gimlet/half"
	"gimlet/mean"
	"gimlet/words"
)

// What follows holds the Hunts, behind each piece, against all that has come by then.

// TestShortTexts: all short lists of pieces, some of which cut characters in two, for all short texts asked for.
func TestShortTexts(t *testing.T) {
	texts := textsOf([]string{"a", "é", "\xC3"}, 3)
	pieces := []string{"", "a", "é", "\xC3", "\xA9", "\uFFFDa", "\xFFé"}
	for many := range 5 {
		for _, list := range listsOf(pieces, many) {
			for _, text := range texts {
				for c := api.Exists; c <= api.Contains; c++ {
					tried(t, asked{c, text, 0}, list...)
				}
			}
		}
	}
}

// TestShortSearches: all short texts asked for, in all short texts: those of two letters hold their own beginnings within them.
func TestShortSearches(t *testing.T) {
	texts := textsOf([]string{"a", "b"}, 5)
	for _, came := range textsOf([]string{"a", "b"}, 9) {
		list := charactersOf(came)
		for _, text := range texts {
			for c := api.Exists; c <= api.Contains; c++ {
				tried(t, asked{c, text, 0}, list...)
				tried(t, asked{c, text, 0}, came)
			}
		}
	}
}

// TestShortLengths: all small numbers, with all short lists of pieces.
func TestShortLengths(t *testing.T) {
	pieces := []string{"", "a", "é", "\U0001F600", "\xC3", "\xA9", "ab", "\xE2\x82"}
	for many := range 5 {
		for _, list := range listsOf(pieces, many) {
			for number := range 10 {
				for c := api.LengthIs; c <= api.Shorter; c++ {
					tried(t, asked{c, "", number}, list...)
				}
			}
		}
	}
}

// TestCuts: a text in two and in three pieces, cut anywhere, and byte by byte.
func TestCuts(t *testing.T) {
	for _, came := range []string{"", "aé€\U0001F600a", "\uFFFD\xFFé", "\xE2\x82\xACé\xE2\x82", "ababab", "\xF0\x9F\x98\x80\xF0\x9F\x98"} {
		texts := []string{"", "x", came, came + "a", "\xFF", "\uFFFD\uFFFD", "é", "€", "\U0001F600", "é€"}
		for from := range len(came) + 1 {
			texts = append(texts, came[from:], came[:from])
		}
		for _, text := range texts {
			for _, a := range every(text, len([]rune(text))) {
				tried(t, a, bytesOf(came)...)
				for from := range len(came) + 1 {
					for to := from; to <= len(came); to++ {
						tried(t, a, came[:from], came[from:to], came[to:])
					}
				}
			}
		}
	}
}

// needSame: P16.5: with these pieces the same is known of the whole text, and of each beginning that both lists have, as with its characters one by one.
func needSame(t *testing.T, a asked, came string, pieces []string) {
	t.Helper()
	known := []api.Truth{made(t, a).Truth()} // behind so many characters
	h := made(t, a)
	for _, s := range charactersOf(came) {
		h.Add(s)
		known = append(known, h.Truth())
	}
	h.Close()
	other, many := made(t, a), 0
	for _, s := range pieces {
		other.Add(s)
		many += len([]rune(s))
		if other.Truth() != known[many] {
			t.Fatalf("P16.5: %v: %q: %s behind %d characters, %s of %q", a, pieces, letter(other.Truth()), many, letter(known[many]), came)
		}
	}
	other.Close()
	if other.Truth() != h.Truth() {
		t.Fatalf("P16.5: %v: %q: %s, whole; %s of %q", a, pieces, letter(other.Truth()), letter(h.Truth()), came)
	}
}

// TestCutsAtEnds: P16.5: all ways to cut a text at characters' ends.
func TestCutsAtEnds(t *testing.T) {
	for _, came := range []string{"", "a", "aé€\U0001F600aé", "abaabab", "\uFFFDaé\uFFFDa"} {
		small := charactersOf(came)
		for _, text := range []string{"", "a", "é", "aba", "abaab", "ab", "é€", "\uFFFDa", "\xFF", came, came + "x"} {
			for _, a := range every(text, len(small)/2) {
				for cuts := range 1 << max(len(small)-1, 0) {
					pieces := []string{""}
					for i, s := range small {
						pieces[len(pieces)-1] += s
						if cuts>>i&1 == 1 {
							pieces = append(pieces, "", "")
						}
					}
					needSame(t, a, came, pieces)
				}
			}
		}
	}
}

// TestByChance: longer texts; those asked for are often of what comes, or nearly.
func TestByChance(t *testing.T) {
	m := newMaker(1)
	for range 20000 {
		letters := m.letters()
		came := m.text(letters, 60)
		text := m.text(letters, 12)
		if m.r.IntN(2) == 0 {
			from := m.r.IntN(len(came) + 1)
			text = came[from : from+m.r.IntN(len(came)-from+1)]
			if m.r.IntN(3) == 0 {
				text += pick(m, letters)
			}
		}
		for _, a := range every(text, m.r.IntN(70)) {
			tried(t, a, m.cut(came, true)...)
			whole := string([]rune(came)) // so that it can be cut at characters' ends alone
			needSame(t, a, whole, m.cut(whole, false))
		}
	}
}

// TestBorders: texts that hold their own beginnings in many ways, in texts that are made of their parts.
func TestBorders(t *testing.T) {
	m := newMaker(2)
	one, two := "a", "ab"
	for range 7 {
		one, two = two, two+one
		for _, text := range []string{two, two[1:], two + two, two + one + one, strings.Repeat("a", len(one)) + "b", strings.Repeat("a", len(one)), strings.ReplaceAll(two, "b", "é")} {
			for range 20 {
				came := ""
				for range 6 {
					came += pick(m, []string{one, two, text, text[:len(text)-1], text[len(text)/2:], "a", "b", "é"})
				}
				for _, a := range every(text, len(came)) {
					tried(t, a, m.cut(came, m.r.IntN(4) > 0)...)
				}
			}
		}
	}
}

// TestWords: what is known of the whole text is what layers 12 and 3 say of it.
func TestWords(t *testing.T) {
	m := newMaker(3)
	for range 5000 {
		letters := m.letters()
		pieces := m.cut(m.text(letters, 30), true)
		came := ""
		for _, s := range pieces {
			came += string([]rune(s))
		}
		for _, a := range every(m.text(letters, 4), m.r.IntN(40)) {
			h := made(t, a)
			for _, s := range pieces {
				h.Add(s)
			}
			if found := words.Find(came, a.text) >= 0; a.c == api.Contains && found != (h.Truth() == T) {
				t.Fatalf("P16.3: %v: %q: %s", a, pieces, letter(h.Truth()))
			}
			h.Close()
			holds, e := mean.Compared(came, a.c, a.text, a.number)
			if e != api.OK || holds != (h.Truth() == T) || !holds != (h.Truth() == F) {
				t.Fatalf("P16.4: %v: %q: %s, by layer 12 %v, %d", a, pieces, letter(h.Truth()), holds, e)
			}
		}
	}
}

// comingEvents: of an element that is open, in which these texts have come, with an element behind each.
func comingEvents(texts []string) []api.Event {
	events := []api.Event{{Kind: api.Open, Depth: 1, Name: "a"}}
	n := 1
	for _, s := range texts {
		events = append(events,
			api.Event{Kind: api.Text, Number: n, Depth: 2, Text: s},
			api.Event{Kind: api.Open, Number: n + 1, Depth: 2, Name: "b"},
			api.Event{Kind: api.Close, Number: n + 1, Depth: 2, Name: "b"})
		n += 2
	}
	return events
}

// TestOpenElements: P16.3: what is known is what layer 15 knows of an open element in which the pieces came, and of it when it is closed.
func TestOpenElements(t *testing.T) {
	m := newMaker(4)
	for range 3000 {
		letters := pick(m, [][]string{{"a", "b"}, {"a", "é"}, {"€", "\U0001F600", "x"}, {"\uFFFD", "a"}})
		pieces := slices.DeleteFunc(m.cut(m.text(letters, 12), false), func(s string) bool { return s == "" })
		for _, a := range every(m.text(letters, 4), m.r.IntN(14)) {
			x := api.Expr{Op: api.Some, Path: api.Path{Steps: []api.Step{{Axis: api.Self, Test: api.AnyNode}}}, Compare: a.c}
			if a.c >= api.Equal && a.c <= api.Contains {
				x.Text = a.text
			} else if a.c >= api.LengthIs {
				x.Number = a.number
			}
			h := made(t, a)
			for many := range len(pieces) + 1 {
				if many > 0 {
					h.Add(pieces[many-1])
				}
				if v, e := half.Holds(comingEvents(pieces[:many]), 0, x); v != h.Truth() || e != api.OK {
					t.Fatalf("P16.3: %v: %q: %s, by layer 15 %d, %d", a, pieces[:many], letter(h.Truth()), v, e)
				}
			}
			h.Close()
			events := append(comingEvents(pieces), api.Event{Kind: api.Close, Depth: 1, Name: "a"})
			if v, e := half.Holds(events, 0, x); v != h.Truth() || e != api.OK {
				t.Fatalf("P16.4: %v: %q: %s, by layer 15 %d, %d", a, pieces, letter(h.Truth()), v, e)
			}
		}
	}
}

// TestTurns: rule 7: of several Hunts into which pieces come by turns none knows of the others.
func TestTurns(t *testing.T) {
	m := newMaker(5)
	for range 300 {
		letters := m.letters()
		var trials []*trial
		for range 4 {
			for _, a := range every(m.text(letters, 5), m.r.IntN(20)) {
				trials = append(trials, newTrial(t, a))
			}
		}
		for len(trials) > 0 {
			at := m.r.IntN(len(trials))
			if m.r.IntN(12) == 0 {
				trials[at].end(t)
				trials = slices.Delete(trials, at, at+1)
				continue
			}
			trials[at].add(t, m.text(letters, 3))
		}
	}
}
