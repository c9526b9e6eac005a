package chars_test

import (
	"strconv"
	"testing"
	"unicode/utf8"

	"gimlet/api"
	"gimlet/chars"
)

// eachClass: the same test for every class that there is, and for two that there aren't, side by side.
func eachClass(t *testing.T, test func(*testing.T, api.Class)) {
	for c := api.Class(-1); c <= api.Classes; c++ {
		t.Run(strconv.Itoa(int(c)), func(t *testing.T) {
			t.Parallel()
			test(t, c)
		})
	}
}

// TestAllRunes goes over every rune from below 0 to above U+10FFFF: what Is, Next, Count and All answer must follow from which of them the document's ranges hold.
func TestAllRunes(t *testing.T) {
	eachClass(t, func(t *testing.T, c api.Class) {
		set := members(c)
		var list []rune
		for r := rune(-3); r <= 0x110003; r++ {
			in := set[r]
			if in {
				list = append(list, r)
			}
			if chars.Is(c, r) != in {
				t.Fatalf("P2.1: Is(%d, %#x) = %v", c, r, !in)
			}
			if got := chars.Count(c, r); got != len(list) {
				t.Fatalf("P2.4: Count(%d, %#x) = %d; want %d", c, r, got, len(list))
			}
		}
		sameWalk(t, c, list)
		sameNext(t, c, list)
	})
}

// members: the characters of the class, by the document's ranges.
func members(c api.Class) map[rune]bool {
	set := map[rune]bool{}
	for _, e := range written(c) {
		for r := e.low; r <= e.high; r++ {
			set[r] = true
		}
	}
	return set
}

func sameWalk(t *testing.T, c api.Class, list []rune) {
	n := 0
	for r := range chars.All(c) {
		if n == len(list) || list[n] != r {
			t.Fatalf("P2.5: All(%d) gives %#x as number %d", c, r, n)
		}
		n++
	}
	if n != len(list) {
		t.Errorf("P2.5: All(%d) gives %d characters; want %d", c, n, len(list))
	}
}

func sameNext(t *testing.T, c api.Class, list []rune) {
	at := 0
	for r := rune(-3); r <= 0x110003; r++ {
		for at < len(list) && list[at] <= r {
			at++
		}
		want, ok := rune(0), at < len(list)
		if ok {
			want = list[at]
		}
		if got, has := chars.Next(c, r); got != want || has != ok {
			t.Fatalf("P2.3: Next(%d, %#x) = %#x, %v; want %#x, %v", c, r, got, has, want, ok)
		}
	}
}

func TestBeginsExamples(t *testing.T) {
	for _, x := range []struct {
		c    api.Class
		b    string
		want bool
	}{
		{api.Allowed, "\xef\xbf", true}, {api.Allowed, "\xef\xbf\xbe", false}, {api.Allowed, "\xed\xa0", false}, {api.Allowed, "", false},
		{api.Digit, "1", true}, {api.Digit, "12", false}, {api.NameStart, "\xf3", true}, {api.NameStart, "\xf3\xb0", false},
		{api.NameStart, "\xf3\xaf\xbf\xbf", true}, {api.NameStart, "\xf3\xaf\xbf\xbfa", false}, {api.NameRest, "\xc2", true}, {api.NameStart, "\xc2", false},
		{api.Classes, "a", false}, {-1, "a", false}, {api.Digit, "0\x00\x00\x00\x00", false},
	} {
		if got := chars.Begins(x.c, []byte(x.b)); got != x.want {
			t.Errorf("P2.2: Begins(%d, % x) = %v", x.c, x.b, got)
		}
	}
	if chars.Begins(api.Allowed, nil) {
		t.Error("P2.2: Begins(Allowed, nil)")
	}
}

// beginnings: all bytes that a character of the class has, or begins with.
func beginnings(c api.Class) map[string]bool {
	set := map[string]bool{}
	for _, e := range written(c) {
		for r := e.low; r <= e.high; r++ {
			b := string(r)
			for n := 1; n <= len(b); n++ {
				set[b[:n]] = true
			}
		}
	}
	return set
}

// TestBeginsAll asks for every character and each of its beginnings; for all strings of one and two bytes; for strings that differ from an edge character's by one byte; for strings of edge bytes.
func TestBeginsAll(t *testing.T) {
	eachClass(t, func(t *testing.T, c api.Class) {
		set := beginnings(c)
		check := func(b []byte) {
			if got := chars.Begins(c, b); got != set[string(b)] {
				t.Fatalf("P2.2: Begins(%d, % x) = %v", c, b, got)
			}
		}
		everyCharacter(check)
		for x := range 1 << 16 {
			check([]byte{byte(x)})
			check([]byte{byte(x >> 8), byte(x)})
		}
		nearEdges(check)
		edgeStrings(nil, check)
	})
}

func everyCharacter(check func([]byte)) {
	for r := range rune(0x110000) {
		b := utf8.AppendRune(nil, r)
		check(b)
		for len(b) > 3 && b[len(b)-1] == 0x80 { // each beginning of three bytes stands ahead of one that ends so
			b = b[:len(b)-1]
			check(b)
		}
	}
}

// nearEdges: the bytes of edge characters with one byte put behind them, put ahead of them, or changed at the end.
func nearEdges(check func([]byte)) {
	for _, r := range edges() {
		b := utf8.AppendRune(nil, r)
		for x := range 256 {
			check(append(b[:len(b):len(b)], byte(x)))
			check(append([]byte{byte(x)}, b...))
			check(append(b[:len(b)-1:len(b)-1], byte(x)))
		}
	}
}

// edgeStrings: all strings of up to four bytes at which UTF-8 turns, and those of four with a fifth one behind.
func edgeStrings(b []byte, check func([]byte)) {
	check(b)
	if len(b) == 4 {
		check(append(b[:4:4], 0x80))
		check(append(b[:4:4], '1'))
		return
	}
	for _, x := range []byte{0, '1', 0x7F, 0x80, 0x8F, 0x90, 0x9F, 0xA0, 0xBF, 0xC1, 0xC2, 0xE0, 0xED, 0xEF, 0xF0, 0xF3, 0xF4, 0xF5} {
		edgeStrings(append(b[:len(b):len(b)], x), check)
	}
}
