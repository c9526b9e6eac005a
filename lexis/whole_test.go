package lexis_test

import (
	"errors"
	"math/big"
	"slices"
	"strings"
	"testing"
	"unicode/utf8"

	"gimlet/api"
	"gimlet/chars"
	"gimlet/lexis"
	"gimlet/runes"
)

// What follows holds Words against the chapter's own words: at each place all pieces from there on are asked whether they are a word by themselves, and the longest of them is taken.

// wholeWord: is s a word by itself, but for how great a number is?
func wholeWord(s string) (api.WordKind, bool) {
	switch {
	case chars.Name(s):
		return api.WordName, true
	case s != "" && strings.Trim(s, "0123456789") == "":
		return api.WordNumber, true
	case len(s) > 1 && strings.ContainsAny(s[:1], `'"`) && strings.Index(s[1:], s[:1]) == len(s)-2:
		return api.WordText, true
	case slices.Contains(allSigns(), s):
		return api.WordSign, true
	}
	return 0, false
}

// longest: the longest piece at the front of s that is a word, and its kind.
func longest(s string) (string, api.WordKind) {
	for n := len(s); n > 0; n-- {
		if kind, ok := wholeWord(s[:n]); ok {
			return s[:n], kind
		}
	}
	return "", 0
}

// reading: the words of q, by the chapter.
func reading(q string) ([]api.Word, *api.Fault) {
	faultAt := func(why api.Errno, at int) ([]api.Word, *api.Fault) {
		place, _ := runes.At([]byte(q), at)
		return nil, &api.Fault{At: place, Why: why}
	}
	if !utf8.ValidString(q) {
		return faultAt(api.ErrBytes, runes.Good([]byte(q)))
	}
	var list []api.Word
	for at := 0; at < len(q); {
		if strings.ContainsAny(q[at:at+1], " \t\n\r") {
			at++
			continue
		}
		piece, kind := longest(q[at:])
		if piece == "" {
			return faultAt(api.ErrWord, at)
		}
		word := api.Word{Kind: kind, Text: piece}
		word.At, _ = runes.At([]byte(q), at)
		at += len(piece)
		switch kind {
		case api.WordText:
			word.Text = piece[1 : len(piece)-1]
		case api.WordNumber:
			value, _ := new(big.Int).SetString(piece, 10)
			if value.Cmp(big.NewInt(api.MaxNumber)) > 0 {
				return faultAt(api.ErrWord, word.At.Byte)
			}
			if next, _ := utf8.DecodeRuneInString(q[at:]); at < len(q) && chars.Is(api.NameStart, next) {
				return faultAt(api.ErrWord, at)
			}
			word.Text, word.Number = "", int(value.Int64())
		}
		list = append(list, word)
	}
	return list, nil
}

// check: P10.1, by its words, and P10.3 of what comes of it.
func check(t *testing.T, q string) {
	t.Helper()
	want, fault := reading(q)
	got, err := lexis.Words([]byte(q))
	if fault != nil {
		var f *api.Fault
		if !errors.As(err, &f) || *f != *fault || len(got) != 0 {
			t.Errorf("P10.1: Words(%q) = %v, %v, want %d at %v", q, got, err, fault.Why, fault.At)
		}
		return
	}
	if err != nil || !slices.Equal(got, want) {
		t.Errorf("P10.1: Words(%q) = %v, %v, want %v", q, got, err, want)
		return
	}
	printed := lexis.Print(got)
	again, err := lexis.Words([]byte(printed))
	if err != nil || !slices.Equal(unplaced(again), unplaced(got)) {
		t.Errorf("P10.3: Words(%q), printed as %q, = %v, %v, want %v", q, printed, again, err, got)
	}
	// The form is its own: one space between each two words, and no other blank outside of texts.
	if lexis.Print(again) != printed {
		t.Errorf("P10.3: %q is printed as %q", printed, lexis.Print(again))
	}
}

// eachText: front with all texts of at most that many of these pieces behind it.
func eachText(front string, pieces []string, most int, visit func(string)) {
	visit(front)
	if most == 0 {
		return
	}
	for _, p := range pieces {
		eachText(front+p, pieces, most-1, visit)
	}
}

func TestWordsByTheChapter(t *testing.T) {
	for _, c := range []struct {
		about  string
		pieces []string
		most   int
	}{
		{"every sign", append(allSigns(), ":", "!", "a", "7", " ", "'", "\""), 3},
		{"edges of all kinds", []string{"/", ":", "=", "!", ".", "*", "-", "a", "é", "0", "7", "1000000", " ", "\n", "\r", "'", "\"", "+", "\x00", "\uFFFD", "\u00B7", "\xFF", "\xC3", "\xA9"}, 4},
		{"texts and line ends", []string{"'", "\"", "a", " ", "\r", "\n", "é"}, 6},
		{"numbers", []string{"0", "1", "9", "000000", "1000000", "a", ".", " ", "-"}, 5},
		{"names", []string{"a", "-", ".", "7", "_", "\u00B7", "\U00010000", ":", " "}, 5},
		{"wrong bytes", []string{"\xE2", "\x82", "\xAC", "\xF0", "\x9F", "'", "+", "\n"}, 5},
	} {
		t.Run(c.about, func(t *testing.T) {
			t.Parallel()
			eachText("", c.pieces, c.most, func(q string) {
				if check(t, q); t.Failed() {
					t.FailNow()
				}
			})
		})
	}
}

// queries: some whole ones, and some that are words alone.
func queries() []string {
	return []string{
		`//a[@x-1="y"]`, "a.b . .c", "child::*/text()", "string-length(.)>007", `é='"'`, "///", "//b[@c='é']", "//a[not(b)]/descendant-or-self::node()",
		"/a//b[starts-with(@c, 'x') and not(d or e)]", "a[b != \"it's\"]", "a[string-length(text()) < 1000000]\r\n/ b", "//text()[contains(., '\r\n\x00\uFFFF')]\t.",
		"\n\n'\n'\r'\r'\r\n'\r\n'x", "and[or]/not/text", "名[名='名']", "\U00010000 \U0010FFFF", "0 00 000 999999 1000001",
	}
}

// Each query cut at each byte, with each byte left out, and with each other byte in its place or ahead of it.
func TestQueriesCutAndChanged(t *testing.T) {
	for _, q := range queries() {
		for at := range len(q) {
			check(t, q[:at])
			check(t, q[at:])
			check(t, q[:at]+q[at+1:])
			for x := range 256 {
				other := string([]byte{byte(x)})
				check(t, q[:at]+other+q[at:])
				check(t, q[:at]+other+q[at+1:])
			}
		}
		check(t, q)
	}
}

// Any two queries beside one another.
func TestQueriesBesideOneAnother(t *testing.T) {
	for _, a := range queries() {
		for _, b := range queries() {
			for _, between := range []string{"", " ", "'", "\r", "\xFF"} {
				check(t, a+between+b)
			}
		}
	}
}

// P10.3 of words that are made, not read: whatever names, numbers, signs and texts stand side by side, the space keeps them apart.
func TestPrintedWordsAreRead(t *testing.T) {
	list := []api.Word{name("a"), name("é-.7"), name("_"), number(0), number(7), number(api.MaxNumber), text(""), text("x y"), text("'"), text(`"`), text("\n\x00\uFFFF"), text(" ")}
	for _, s := range allSigns() {
		list = append(list, sign(s))
	}
	needRead := func(words ...api.Word) {
		printed := lexis.Print(words)
		if got, err := lexis.Words([]byte(printed)); err != nil || !slices.Equal(unplaced(got), words) {
			t.Errorf("P10.3: %v is printed as %q, which is read as %v, %v", words, printed, got, err)
		}
	}
	needRead()
	needRead(list...)
	for _, a := range list {
		needRead(a)
		for _, b := range list {
			needRead(a, b)
			for _, c := range list {
				needRead(a, b, c)
			}
		}
	}
}
