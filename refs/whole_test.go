package refs_test

import (
	"strconv"
	"strings"
	"sync"
	"testing"
	"unicode/utf8"

	"gimlet/api"
	"gimlet/chars"
	"gimlet/refs"
)

// What follows holds Read against the document's own words: all references that there are, but for noughts ahead and the kind of digits, written out in a list with all their beginnings.

func decimalForm(r rune) string { return "&#" + strconv.Itoa(int(r)) + ";" }

func hexForm(r rune) string { return "&#x" + strconv.FormatInt(int64(r), 16) + ";" }

// words: all references, in their shortest form with small digits, and all their beginnings but themselves.
type words struct {
	whole  map[string]rune
	begins map[string]bool
}

// allWords is made once: it is long.
var allWords = sync.OnceValue(func() words {
	w := words{map[string]rune{"&amp;": '&', "&lt;": '<', "&gt;": '>', "&quot;": '"', "&apos;": '\''}, map[string]bool{}}
	for r := range chars.All(api.Allowed) {
		w.whole[decimalForm(r)] = r
		w.whole[hexForm(r)] = r
	}
	for s := range w.whole {
		for n := len(s) - 1; n >= 0 && !w.begins[s[:n]]; n-- {
			w.begins[s[:n]] = true
		}
	}
	return w
})

// shortest: the same without noughts ahead of the number, with small digits.
func shortest(b string) string {
	for _, front := range []string{"&#x", "&#"} {
		if digits, ok := strings.CutPrefix(b, front); ok {
			rest := strings.TrimLeft(digits, "0")
			if front == "&#x" {
				rest = strings.ToLower(rest)
			}
			if rest != digits && strings.HasPrefix(rest, "x") {
				return b // an x behind a nought is none that tells the base
			}
			return front + rest
		}
	}
	return b
}

// read: P5.1, by its words.
func (w words) read(b string) (rune, int, api.How) {
	longest := 0
	for n := range len(b) + 1 {
		if r, ok := w.whole[shortest(b[:n])]; ok {
			return r, n, api.Have
		}
		if !w.begins[shortest(b[:n])] {
			return 0, longest, api.Bad
		}
		longest = n
	}
	return 0, 0, api.Wait
}

func (w words) check(t *testing.T, b string) {
	t.Helper()
	r, n, how := w.read(b)
	read(t, b, r, n, how)
}

// textsOf: all texts of at most that many of these pieces.
func textsOf(pieces []string, most int) []string {
	all, last := []string{""}, []string{""}
	for range most {
		var longer []string
		for _, s := range last {
			for _, p := range pieces {
				longer = append(longer, s+p)
			}
		}
		all, last = append(all, longer...), longer
	}
	return all
}

func TestReadByTheWords(t *testing.T) {
	w := allWords()
	t.Run("all short texts", func(t *testing.T) {
		pieces := []string{"&", "#", "x", "X", "0", "1", "8", "D", "f", "F", "g", ";", "a", "m", "p", "o", "s", "l", "t", "q", "u", "\xC3", "é"}
		for _, s := range textsOf(pieces, 3) {
			w.check(t, s)
			for _, front := range []string{"&", "&#", "&#x", "&#xD8", "&#x10F", "&#11141", "&#000", "&#x000", "&am", "&ap", "&quo"} {
				w.check(t, front+s)
			}
		}
	})
	t.Run("all numbers of few digits", func(t *testing.T) {
		for number := range 0x11100 {
			for _, front := range []string{"&#", "&#0", "&#x", "&#x00"} {
				base := 10
				if strings.HasPrefix(front, "&#x") {
					base = 16
				}
				b := front + strconv.FormatInt(int64(number), base)
				w.check(t, b)
				w.check(t, b+";")
			}
		}
	})
	t.Run("numbers about the greatest", func(t *testing.T) {
		for number := int64(utf8.MaxRune) - 100; number < utf8.MaxRune+100; number++ {
			for _, b := range []string{"&#" + strconv.FormatInt(number, 10), "&#x" + strconv.FormatInt(number, 16), "&#x0" + strings.ToUpper(strconv.FormatInt(number, 16))} {
				w.check(t, b)
				w.check(t, b+";")
				w.check(t, b+"0;")
			}
		}
	})
	t.Run("each byte behind each beginning", w.testEachByte)
}

func (w words) testEachByte(t *testing.T) {
	for _, whole := range []string{
		"&amp;", "&lt;", "&gt;", "&quot;", "&apos;", "&#65;", "&#00065;", "&#x41;", "&#x0041;", "&#xe9;", "&#xE9;", "&#9;", "&#xA;", "&#xd;",
		"&#55295;", "&#57344;", "&#65533;", "&#65536;", "&#1114111;", "&#xD7FF;", "&#xe000;", "&#xFFFD;", "&#xFfFd;", "&#x10000;", "&#x10ffff;", "&#x0010FFFF;",
		"&#55296;", "&#xD800;", "&#xdfff;", "&#xFFFE;", "&#65535;", "&#0;", "&#x0;", "&#1114112;", "&#x110000;",
	} {
		for n := range len(whole) + 1 {
			w.check(t, whole[:n])
			for x := range 256 {
				w.check(t, whole[:n]+string([]byte{byte(x)}))
				w.check(t, whole[:n]+string([]byte{byte(x)})+whole[n:])
			}
		}
	}
}

// plain: P5.4, by its words.
func (w words) plain(s string) (string, bool) {
	if !utf8.ValidString(s) {
		return "", false
	}
	var out strings.Builder
	for s != "" {
		r, n := utf8.DecodeRuneInString(s)
		if r == '&' {
			var how api.How
			if r, n, how = w.read(s); how != api.Have {
				return "", false
			}
		} else if r == '<' || !chars.Is(api.Allowed, r) {
			return "", false
		}
		out.WriteRune(r)
		s = s[n:]
	}
	return out.String(), true
}

func TestPlainByTheWords(t *testing.T) {
	w := allWords()
	pieces := []string{"&", "lt", ";", "&amp;", "&#x41;", "&#", "0", "38", "<", ">", "\r\n", "é", "\xC3", "\xA9", "\x00", "\uFFFD", "\uFFFE"}
	for _, s := range textsOf(pieces, 4) {
		if want, ok := w.plain(s); ok {
			plain(t, s, want)
		} else {
			notPlain(t, s)
		}
	}
}

// P5.1: how many bytes can go on is a beginning itself, and with one byte more it is none.
func TestBadIsToldAtItsByte(t *testing.T) {
	for _, s := range textsOf([]string{"&", "#", "x", "0", "1114111", "10FFFF", "D800", ";", "amp", "a", "quo", "t"}, 4) {
		_, n, how := refs.Read([]byte(s))
		if how != api.Bad {
			continue
		}
		if _, _, how := refs.Read([]byte(s[:n])); how != api.Wait {
			t.Errorf("P5.1: Read(%q) is Bad at %d, but what stands ahead is %d", s, n, how)
		}
		if _, m, how := refs.Read([]byte(s[:n+1])); how != api.Bad || m != n {
			t.Errorf("P5.1: Read(%q) = %d, %d", s[:n+1], m, how)
		}
	}
}
