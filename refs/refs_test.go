package refs_test

import (
	"bytes"
	"strings"
	"testing"
	"unicode/utf8"

	"gimlet/api"
	"gimlet/chars"
	"gimlet/refs"
)

// read: P5.1, at these bytes.
func read(t *testing.T, b string, r rune, n int, how api.How) {
	t.Helper()
	if gr, gn, gh := refs.Read([]byte(b)); gr != r || gn != n || gh != how {
		t.Errorf("P5.1: Read(%q) = %U, %d, %d, want %U, %d, %d", short(b), gr, gn, gh, r, n, how)
	}
}

// short: what can be told of a text that may be very long.
func short(s string) string {
	if len(s) < 60 {
		return s
	}
	return s[:20] + " .. " + s[len(s)-20:]
}

func TestReadExamples(t *testing.T) {
	read(t, "&lt;x", '<', 4, api.Have)
	read(t, "&#x41;", 'A', 6, api.Have)
	read(t, "&#00065;", 'A', 8, api.Have)
	read(t, "&#x10ffff;", 0x10FFFF, 10, api.Have)
	for _, b := range []string{"", "&", "&a", "&#", "&#x", "&#xD800", "&#0", "&lt"} {
		read(t, b, 0, 0, api.Wait)
	}
	for _, c := range []struct {
		b string
		n int
	}{
		{"a", 0}, {"&x", 1}, {"&am;", 3}, {"&;", 1},
		{"&#;", 2}, {"&#X41;", 2}, {"&#xg", 3}, {"&#x;", 3},
		{"&#xD800;", 7}, {"&#0;", 3}, {"&#1114112;", 8}, {"&#x110000", 8},
		{"&ampx", 4},
	} {
		read(t, c.b, 0, c.n, api.Bad)
	}
}

func TestReadOfNothing(t *testing.T) {
	if r, n, how := refs.Read(nil); r != 0 || n != 0 || how != api.Wait {
		t.Errorf("P5.1: Read(nil) = %U, %d, %d", r, n, how)
	}
}

func TestReadNames(t *testing.T) {
	for name, r := range map[string]rune{"amp": '&', "lt": '<', "gt": '>', "quot": '"', "apos": '\''} {
		whole := "&" + name + ";"
		for _, behind := range []string{"", ";", "&", name, "\xFF", "\x00"} {
			read(t, whole+behind, r, len(whole), api.Have)
		}
		for n := range len(whole) {
			read(t, whole[:n], 0, 0, api.Wait)
		}
		for _, wrong := range []string{strings.ToUpper(name), strings.ToUpper(name[:1]) + name[1:]} {
			read(t, "&"+wrong+";", 0, 1, api.Bad)
		}
		read(t, "&"+name+" ;", 0, 1+len(name), api.Bad)
		read(t, "&"+name+name+";", 0, 1+len(name), api.Bad)
	}
	for b, n := range map[string]int{"&nbsp;": 1, "&apo;": 4, "&quo;": 4, "&l;": 2, "&g;": 2, "&gtx": 3, "& amp;": 1, "&aamp;": 2, "&ltgt;": 3} {
		read(t, b, 0, n, api.Bad)
	}
}

// Each edge in both bases, with digits of either kind, with noughts ahead.
func TestReadNumbersAtTheEdges(t *testing.T) {
	for _, c := range []struct {
		decimal, hex string
		r            rune
		ok           bool
	}{
		{"0", "0", 0, false}, {"8", "8", 0, false}, {"9", "9", 9, true}, {"10", "a", 10, true}, {"11", "b", 0, false}, {"12", "c", 0, false},
		{"13", "d", 13, true}, {"14", "e", 0, false}, {"31", "1f", 0, false}, {"32", "20", ' ', true}, {"38", "26", '&', true}, {"127", "7f", 127, true}, {"133", "85", 0x85, true},
		{"55295", "d7ff", 0xD7FF, true}, {"55296", "d800", 0, false}, {"57343", "dfff", 0, false}, {"57344", "e000", 0xE000, true},
		{"65533", "fffd", 0xFFFD, true}, {"65534", "fffe", 0, false}, {"65535", "ffff", 0, false}, {"65536", "10000", 0x10000, true},
		{"1114111", "10ffff", 0x10FFFF, true},
	} {
		for _, noughts := range []string{"", "0", "00000000", strings.Repeat("0", 5000)} {
			for _, front := range []string{"&#" + noughts + c.decimal, "&#x" + noughts + c.hex, "&#x" + noughts + strings.ToUpper(c.hex)} {
				read(t, front, 0, 0, api.Wait)
				if c.ok {
					read(t, front+";", c.r, len(front)+1, api.Have)
					read(t, front+";;", c.r, len(front)+1, api.Have)
				} else {
					read(t, front+";", 0, len(front), api.Bad)
				}
				for _, wrong := range []string{" ", "g", "&", "-", "\x00", "\xC3\xA9", "é;"} {
					read(t, front+wrong, 0, len(front), api.Bad)
				}
			}
		}
	}
	for _, b := range []string{"&#1114112", "&#1114120", "&#1200000", "&#9999999"} {
		read(t, b, 0, 8, api.Bad)
		read(t, b+";", 0, 8, api.Bad)
	}
	read(t, "&#x110000;", 0, 8, api.Bad)
	read(t, "&#xFFFFFF;", 0, 8, api.Bad)
	read(t, "&#xfFfFd", 0, 0, api.Wait)
	read(t, "&#xfFfD;", 0xFFFD, 8, api.Have)
	read(t, "&#1114111", 0, 0, api.Wait)
	read(t, "&#11141110", 0, 9, api.Bad)
	read(t, "&#x10FFFF0", 0, 9, api.Bad)
}

// Signs, blanks and digits of other kinds are none of a number's.
func TestReadNumbersThatAreNone(t *testing.T) {
	for b, n := range map[string]int{
		"&#+65;": 2, "&#-65;": 2, "&# 65;": 2, "&#x 41;": 3, "&#6 5;": 3, "&#6_5;": 3, "&#1a;": 3, "&#a;": 2, "&#x4G;": 4, "&#0x41;": 3, "&#xx41;": 3, "&#x-1;": 3,
		"&#٣;": 2, "&#x٣;": 3, "&#65": -1, "&#x41": -1, "&##65;": 2, "&#/;": 2, "&#:;": 2, "&#x/;": 3, "&#x:;": 3, "&#x@;": 3, "&#x`;": 3,
	} {
		if n < 0 {
			read(t, b, 0, 0, api.Wait)
		} else {
			read(t, b, 0, n, api.Bad)
		}
	}
}

// Numbers that no integer holds: the first digit by which they are too great is told, whatever stands behind.
func TestReadNumbersOfManyDigits(t *testing.T) {
	for _, c := range []struct {
		digits string
		n      int
	}{
		{"9", 2 + 6}, {"1", 2 + 7}, {"12345678901234567890", 2 + 6},
		{"4294967361", 2 + 6}, {"18446744073709551681", 2 + 6}, // what wraps round to 65
	} {
		b := "&#" + strings.Repeat(c.digits, 3000)
		read(t, b, 0, c.n, api.Bad)
		read(t, b+";", 0, c.n, api.Bad)
		if len(c.digits) > 8 {
			read(t, "&#"+c.digits+";", 0, c.n, api.Bad)
		}
	}
	for _, c := range []struct {
		digits string
		n      int
	}{
		{"F", 3 + 5}, {"1", 3 + 5}, {"10", 3 + 6}, {"100000041", 3 + 6}, {"10000000000000041", 3 + 6},
	} {
		b := "&#x" + strings.Repeat(c.digits, 3000)
		read(t, b+";", 0, c.n, api.Bad)
		if len(c.digits) > 8 {
			read(t, "&#x"+c.digits+";", 0, c.n, api.Bad)
		}
	}
	noughts := strings.Repeat("0", 1_000_000)
	read(t, "&#"+noughts+"65;", 'A', 2+len(noughts)+3, api.Have)
	read(t, "&#x"+noughts+"41;", 'A', 3+len(noughts)+3, api.Have)
	read(t, "&#"+noughts, 0, 0, api.Wait)
	read(t, "&#"+noughts+";", 0, 2+len(noughts), api.Bad)
	read(t, "&#"+noughts+"1114112;", 0, 2+len(noughts)+6, api.Bad)
}

// Rule 5: what is handed in stays as it is, its spare room too.
func TestReadChangesNothing(t *testing.T) {
	for _, s := range []string{"&lt;", "&#x41;", "&#65", "&ampx", "x", ""} {
		room := append(append([]byte{}, s...), "&#x42;&#x42;"...)
		before := bytes.Clone(room)
		refs.Read(room[:len(s)])
		if !bytes.Equal(room, before) {
			t.Errorf("Read(%q) changed its bytes", s)
		}
	}
}

// P5.1: what stands in the spare room is no part of the bytes.
func TestReadGoesNoFurther(t *testing.T) {
	room := []byte("&#65;")
	if r, n, how := refs.Read(room[:4]); r != 0 || n != 0 || how != api.Wait {
		t.Errorf("P5.1: Read went behind the end: %U, %d, %d", r, n, how)
	}
	room = []byte("&lt;")
	if r, n, how := refs.Read(room[:3]); r != 0 || n != 0 || how != api.Wait {
		t.Errorf("P5.1: Read went behind the end: %U, %d, %d", r, n, how)
	}
}

// written: P5.2, P5.3.
func written(t *testing.T, s, text, value string) {
	t.Helper()
	if got := refs.Text(s); got != text {
		t.Errorf("P5.2: Text(%q) = %q, want %q", s, got, text)
	}
	if got := refs.Value(s); got != value {
		t.Errorf("P5.3: Value(%q) = %q, want %q", s, got, value)
	}
}

func TestWriting(t *testing.T) {
	written(t, "a<b>&\r\"'\xff", "a&lt;b&gt;&amp;&#xD;\"'\xff", "a&lt;b>&amp;&#xD;&quot;'\xff")
	written(t, "a<b>&\r\n\t\"'", "a&lt;b&gt;&amp;&#xD;\n\t\"'", "a&lt;b>&amp;&#xD;&#xA;&#x9;&quot;'")
	written(t, "", "", "")
	written(t, "plain é \U0010FFFF", "plain é \U0010FFFF", "plain é \U0010FFFF")
	written(t, "&amp;&#xD;", "&amp;amp;&amp;#xD;", "&amp;amp;&amp;#xD;")
	written(t, "\r\n\r", "&#xD;\n&#xD;", "&#xD;&#xA;&#xD;")
	written(t, "]]>", "]]&gt;", "]]>")
}

// Bytes of no character stay, and what stands beside them is written as it should be.
func TestWritingOfWrongBytes(t *testing.T) {
	written(t, "\xC3<\xA9", "\xC3&lt;\xA9", "\xC3&lt;\xA9")
	written(t, "\xE2\x82&\x00\xFF", "\xE2\x82&amp;\x00\xFF", "\xE2\x82&amp;\x00\xFF")
	written(t, "\xED\xA0\x80\x0B\xEF\xBF\xBE", "\xED\xA0\x80\x0B\xEF\xBF\xBE", "\xED\xA0\x80\x0B\xEF\xBF\xBE")
	written(t, "\xEF\xBF\xBD\xFF", "\xEF\xBF\xBD\xFF", "\xEF\xBF\xBD\xFF")
}

// Each byte by itself, and between others.
func TestWritingOfEachByte(t *testing.T) {
	text := map[byte]string{'&': "&amp;", '<': "&lt;", '>': "&gt;", 0x0D: "&#xD;"}
	value := map[byte]string{'&': "&amp;", '<': "&lt;", '"': "&quot;", 0x09: "&#x9;", 0x0A: "&#xA;", 0x0D: "&#xD;"}
	form := func(forms map[byte]string, x byte) string {
		if s, ok := forms[x]; ok {
			return s
		}
		return string([]byte{x})
	}
	for i := range 256 {
		x := byte(i)
		inText, inValue := form(text, x), form(value, x)
		written(t, string([]byte{x}), inText, inValue)
		written(t, string([]byte{x, x, 'a', x}), inText+inText+"a"+inText, inValue+inValue+"a"+inValue)
	}
}

// plain: P5.4, where all is well.
func plain(t *testing.T, s, want string) {
	t.Helper()
	if got, e := refs.Plain(s); got != want || e != api.OK {
		t.Errorf("P5.4: Plain(%q) = %q, %d, want %q", short(s), short(got), e, short(want))
	}
}

func notPlain(t *testing.T, s string) {
	t.Helper()
	if got, e := refs.Plain(s); got != "" || e != api.ErrShape {
		t.Errorf("P5.4: Plain(%q) = %q, %d, want ErrShape", short(s), short(got), e)
	}
}

func TestPlain(t *testing.T) {
	plain(t, "&#x9;&apos;>", "\t'>")
	plain(t, "", "")
	plain(t, "é\r\n\t]]>\"'", "é\r\n\t]]>\"'")
	plain(t, "&amp;lt;", "&lt;")
	plain(t, "&amp;amp;amp;", "&amp;amp;")
	plain(t, "&#38;#38;", "&#38;")
	plain(t, "&lt;&gt;&quot;&apos;&amp;", "<>\"'&")
	plain(t, "a&#xE9;b&#65533;c&#x10FFFF;;", "a\u00E9b\uFFFDc\U0010FFFF;")
	plain(t, "\uFFFD\U00010000", "\uFFFD\U00010000")
	plain(t, "&#"+strings.Repeat("0", 100000)+"65;", "A")
	plain(t, strings.Repeat("é&lt;", 100000), strings.Repeat("é<", 100000))
}

func TestWhatIsNotPlain(t *testing.T) {
	for _, s := range []string{
		"a&", "a<b", "\xff", "\x00", "<", "&", "&&amp;", "&amp", "&amp;&", "&foo;", "&AMP;", "& amp;", "&#0;", "&#xD800;", "&#xFFFE;", "&#1114112;", "&#;", "&#x;", "&#X41;",
		"\xef\xbf\xbe", "\xef\xbf\xbf", "\xed\xa0\x80", "\x0b", "\x1f", "a\xc3", "\xc3&lt;", "&lt;\xa9", "&l\xc3\xa9t;", "é<", "&lt;<", "&amp;\x01", "\xf4\x90\x80\x80", "\xc0\xbc",
	} {
		notPlain(t, s)
		notPlain(t, "é>"+s)
		notPlain(t, s+" é")
	}
}

// Plain of Text and of Value is the text, where its characters are allowed; where they aren't it is ErrShape.
func TestPlainOfWhatIsWritten(t *testing.T) {
	pieces := []string{"&", "<", ">", "\"", "'", "\t", "\n", "\r", "a", "é", ";", "#", "amp", "&lt;", "]]>", "\uFFFD", "\U0010FFFF", "\xC3", "\x00", "\xEF\xBF\xBE"}
	for _, s := range textsOf(pieces, 3) {
		for _, form := range []string{refs.Text(s), refs.Value(s)} {
			if chars.Texts(s) {
				plain(t, form, s)
			} else {
				notPlain(t, form)
			}
		}
	}
}

// Each allowed character as a reference of either base is what it was.
func TestPlainOfEachCharacter(t *testing.T) {
	var decimal, hex, all strings.Builder
	for r := rune(0); r <= utf8.MaxRune; r++ {
		if chars.Is(api.Allowed, r) {
			decimal.WriteString(decimalForm(r))
			hex.WriteString(hexForm(r))
			all.WriteRune(r)
		}
	}
	plain(t, decimal.String(), all.String())
	plain(t, hex.String(), all.String())
}

// P5.5: what one call was given is nothing to the next.
func TestNothingIsKept(t *testing.T) {
	for range 3 {
		read(t, "&#", 0, 0, api.Wait)
		read(t, "65;", 0, 0, api.Bad)
		read(t, "&lt;", '<', 4, api.Have)
		notPlain(t, "&")
		plain(t, "lt;", "lt;")
		written(t, "&", "&amp;", "&amp;")
		written(t, "", "", "")
	}
}
