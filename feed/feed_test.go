package feed_test

import (
	"bytes"
	"runtime"
	"strings"
	"testing"

	"gimlet/api"
	"gimlet/feed"
)

// place: as the chapter writes places: {byte rune line column}.
func place(b, r, l, c int) api.Place { return api.Place{Byte: b, Rune: r, Line: l, Column: c} }

func char(r rune, width int, at api.Place) api.Char { return api.Char{Rune: r, At: at, Width: width} }

// fed: a Feed of these pieces.
func fed(t *testing.T, pieces ...string) *feed.Feed {
	t.Helper()
	f := feed.New()
	for _, s := range pieces {
		push(t, f, s)
	}
	return f
}

func push(t *testing.T, f *feed.Feed, s string) {
	t.Helper()
	if e := f.Push([]byte(s)); e != api.OK {
		t.Fatalf("P4.1: Push(%x) = %d", s, e)
	}
}

func end(t *testing.T, f *feed.Feed) {
	t.Helper()
	if e := f.End(); e != api.OK {
		t.Fatalf("P4.1: End() = %d", e)
	}
}

// next: P4.3, that Peek answers the same ahead, however often, and leaves Place and Rest as they are.
func next(t *testing.T, f *feed.Feed, want api.Char, how api.How) {
	t.Helper()
	at, rest := f.Place(), f.Rest()
	for range 2 {
		if c, h := f.Peek(); c != want || h != how {
			t.Fatalf("P4.2: Peek() = %v, %d, want %v, %d", c, h, want, how)
		}
	}
	if f.Place() != at || !bytes.Equal(f.Rest(), rest) {
		t.Fatalf("P4.2: Peek changed Place %v to %v, or Rest %x to %x", at, f.Place(), rest, f.Rest())
	}
	if c, h := f.Next(); c != want || h != how {
		t.Fatalf("P4.3: Next() = %v, %d, want %v, %d", c, h, want, how)
	}
	if how != api.Have && f.Place() != at {
		t.Fatalf("P4.3: Next took something beside %d: %v to %v", how, at, f.Place())
	}
}

func rest(t *testing.T, f *feed.Feed, want string) {
	t.Helper()
	if b := f.Rest(); string(b) != want {
		t.Fatalf("P4.5: Rest() = %x, want %x", b, want)
	}
}

func stands(t *testing.T, f *feed.Feed, want api.Place) {
	t.Helper()
	if at := f.Place(); at != want {
		t.Fatalf("P4.4: Place() = %v, want %v", at, want)
	}
}

// Example 1: a character that is cut.
func TestExampleCut(t *testing.T) {
	f := fed(t, "\xE2")
	next(t, f, api.Char{}, api.Wait)
	rest(t, f, "\xE2")
	push(t, f, "\x82\xAC")
	rest(t, f, "")
	next(t, f, char(0x20AC, 3, place(0, 0, 1, 1)), api.Have)
	stands(t, f, place(3, 1, 1, 2))
	next(t, f, api.Char{}, api.Wait)
}

// Example 2: a U+000D at a piece's end, with U+000A behind it, and one with another byte.
func TestExampleLineEnds(t *testing.T) {
	f := fed(t, "\r")
	next(t, f, api.Char{}, api.Wait)
	rest(t, f, "\r")
	push(t, f, "\n")
	rest(t, f, "")
	next(t, f, char('\n', 2, place(0, 0, 1, 1)), api.Have)
	stands(t, f, place(2, 2, 2, 1))
	push(t, f, "\rA")
	rest(t, f, "")
	next(t, f, char('\n', 1, place(2, 2, 2, 1)), api.Have)
	next(t, f, char('A', 1, place(3, 3, 3, 1)), api.Have)
	stands(t, f, place(4, 4, 3, 2))
}

// Example 3: a U+000D ahead of the end.
func TestExampleReturnAtTheEnd(t *testing.T) {
	f := fed(t, "\r")
	end(t, f)
	rest(t, f, "")
	next(t, f, char('\n', 1, place(0, 0, 1, 1)), api.Have)
	stands(t, f, place(1, 1, 2, 1))
	next(t, f, api.Char{}, api.Done)
	next(t, f, api.Char{}, api.Done)
}

// Example 4: bytes that are of no character; nothing is taken behind them, whatever comes.
func TestExampleWrongBytes(t *testing.T) {
	f := fed(t, "A\xE0\x80")
	rest(t, f, "")
	next(t, f, char('A', 1, place(0, 0, 1, 1)), api.Have)
	bad := api.Char{At: place(2, 2, 1, 3)}
	next(t, f, bad, api.Bad)
	next(t, f, bad, api.Bad)
	rest(t, f, "")
	stands(t, f, place(1, 1, 1, 2))
	push(t, f, "B\xE2")
	next(t, f, bad, api.Bad)
	rest(t, f, "")
	end(t, f)
	next(t, f, bad, api.Bad)
	rest(t, f, "")
	stands(t, f, place(1, 1, 1, 2))
}

// Example 5: a beginning of a character at the end.
func TestExampleTooShort(t *testing.T) {
	f := fed(t, "\xE2\x82")
	rest(t, f, "\xE2\x82")
	end(t, f)
	rest(t, f, "")
	next(t, f, api.Char{At: place(2, 2, 1, 3)}, api.Bad)
	next(t, f, api.Char{At: place(2, 2, 1, 3)}, api.Bad)
	if e := f.Push([]byte("\xAC")); e != api.ErrEnded {
		t.Errorf("P4.1: Push behind the end = %d", e)
	}
	next(t, f, api.Char{At: place(2, 2, 1, 3)}, api.Bad)
}

// Example 6: nothing at all.
func TestExampleNothing(t *testing.T) {
	f := fed(t, "")
	next(t, f, api.Char{}, api.Wait)
	end(t, f)
	next(t, f, api.Char{}, api.Done)
	if e := f.End(); e != api.ErrEnded {
		t.Errorf("P4.1: End a second time = %d", e)
	}
	if e := f.Push(nil); e != api.ErrEnded {
		t.Errorf("P4.1: Push(nil) behind the end = %d", e)
	}
	next(t, f, api.Char{}, api.Done)
	stands(t, f, place(0, 0, 1, 1))
}

// P4.1: each Feed is empty and a new one.
func TestNew(t *testing.T) {
	f, g := feed.New(), feed.New()
	if f == nil || g == nil || f == g {
		t.Fatal("New answers no new Feed")
	}
	push(t, f, "ab\xE2")
	next(t, f, char('a', 1, place(0, 0, 1, 1)), api.Have)
	end(t, f)
	for _, empty := range []*feed.Feed{g, feed.New()} {
		stands(t, empty, place(0, 0, 1, 1))
		rest(t, empty, "")
		next(t, empty, api.Char{}, api.Wait)
		push(t, empty, "")
		end(t, empty)
	}
}

// P4.1: what answers ErrEnded has changed nothing, in whatever state the Feed is.
func TestErrEndedChangesNothing(t *testing.T) {
	for _, s := range []string{"", "ab", "a\r", "\xE2\x82", "\xFF", "a\xE0\x80"} {
		f, g := fed(t, s), fed(t, s)
		end(t, f)
		end(t, g)
		for {
			for _, b := range []string{"", "\n", "\xAC", "zz"} {
				if e := f.Push([]byte(b)); e != api.ErrEnded {
					t.Fatalf("P4.1: Push(%x) behind the end of %x = %d", b, s, e)
				}
			}
			if e := f.End(); e != api.ErrEnded {
				t.Fatalf("P4.1: End behind the end of %x = %d", s, e)
			}
			c, how := g.Next()
			next(t, f, c, how)
			stands(t, f, g.Place())
			if how != api.Have {
				break
			}
		}
	}
}

// P4.2: the place of each kind of Bad, told at once or by the end.
func TestBad(t *testing.T) {
	for _, c := range []struct {
		s    string
		end  bool
		want api.Place
	}{
		{"\x80", false, place(0, 0, 1, 1)},
		{"\xFF", false, place(0, 0, 1, 1)},
		{"\xC0\x80", false, place(0, 0, 1, 1)},
		{"\xED\xA0\x80", false, place(1, 1, 1, 2)},
		{"\xF4\x90", false, place(1, 1, 1, 2)},
		{"\xF5\x80\x80\x80", false, place(0, 0, 1, 1)},
		{"\xE2A", false, place(1, 1, 1, 2)},
		{"\xE2\r\n", false, place(1, 1, 1, 2)},
		{"\xE2\x82\n", false, place(2, 2, 1, 3)},
		{"\xE2\x82\xE2\x82\xAC", false, place(2, 2, 1, 3)},
		{"\xF0\x9F\x98\xF0", false, place(3, 3, 1, 4)},
		{"é\xF0\x9F\x98\xFF", false, place(5, 4, 1, 5)},
		{"é\r\n\u20ac\r\xE2\x82\xFF", false, place(10, 7, 3, 3)},
		{"\r\xFF", false, place(1, 1, 2, 1)},
		{"\r\r\n\xC3\xFF", false, place(4, 4, 3, 2)},
		{"\xC3", true, place(1, 1, 1, 2)},
		{"\xF0\x9F\x98", true, place(3, 3, 1, 4)},
		{"a\nb\xF0\x9F", true, place(5, 5, 2, 4)},
		{"\r\xE2", true, place(2, 2, 2, 2)},
		{"\xEF\xBF\xBD\xEF\xBF", true, place(5, 3, 1, 4)},
	} {
		f := fed(t, c.s)
		if c.end {
			end(t, f)
		}
		how := api.Have
		for how == api.Have {
			_, how = f.Next()
		}
		next(t, f, api.Char{At: c.want}, api.Bad)
		rest(t, f, "")
	}
}

// P4.2: characters that are like others are themselves: U+0000, U+FFFD that is written out, line ends of other kinds.
func TestCharactersAreThemselves(t *testing.T) {
	f := fed(t, "\x00\uFFFD\v\u0085\u2028\U0010FFFF\n\n\r\r")
	next(t, f, char(0, 1, place(0, 0, 1, 1)), api.Have)
	next(t, f, char(0xFFFD, 3, place(1, 1, 1, 2)), api.Have)
	next(t, f, char('\v', 1, place(4, 2, 1, 3)), api.Have)
	next(t, f, char(0x85, 2, place(5, 3, 1, 4)), api.Have)
	next(t, f, char(0x2028, 3, place(7, 4, 1, 5)), api.Have)
	next(t, f, char(0x10FFFF, 4, place(10, 5, 1, 6)), api.Have)
	next(t, f, char('\n', 1, place(14, 6, 1, 7)), api.Have)
	next(t, f, char('\n', 1, place(15, 7, 2, 1)), api.Have)
	next(t, f, char('\n', 1, place(16, 8, 3, 1)), api.Have)
	stands(t, f, place(17, 9, 4, 1))
	next(t, f, api.Char{}, api.Wait)
	rest(t, f, "\r")
}

// P4.2: an empty piece tells nothing of a U+000D.
func TestEmptyPieceBehindReturn(t *testing.T) {
	f := fed(t, "\r", "", "")
	next(t, f, api.Char{}, api.Wait)
	rest(t, f, "\r")
	push(t, f, "")
	push(t, f, "\n")
	next(t, f, char('\n', 2, place(0, 0, 1, 1)), api.Have)
}

// P4.2: that a wrong byte came says what the U+000D ahead of it is.
func TestWrongByteBehindReturn(t *testing.T) {
	f := fed(t, "\r", "\xFF")
	rest(t, f, "")
	next(t, f, char('\n', 1, place(0, 0, 1, 1)), api.Have)
	next(t, f, api.Char{At: place(1, 1, 2, 1)}, api.Bad)
}

// P4.5: Rest is of what lies behind characters that weren't taken yet, and takes none of them.
func TestRestBehindCharacters(t *testing.T) {
	for s, want := range map[string]string{
		"ab":              "",
		"ab\xE2":          "\xE2",
		"ab\xF0\x9F\x98":  "\xF0\x9F\x98",
		"ab\r":            "\r",
		"\r\r":            "\r",
		"\r\n":            "",
		"\n":              "",
		"a\r\xE2\x82":     "\xE2\x82",
		"a\xFF\r":         "",
		"a\xFF\xE2":       "",
		"\xE2\x82\xE2":    "",
		"a\xE2\x82\xAC\r": "\r",
	} {
		f := fed(t, s)
		for {
			rest(t, f, want)
			if _, how := f.Next(); how != api.Have {
				break
			}
		}
		rest(t, f, want)
		end(t, f)
		rest(t, f, "")
	}
}

// P4.7: a nil Feed.
func TestNil(t *testing.T) {
	var f *feed.Feed
	for _, b := range [][]byte{nil, {}, []byte("a")} {
		if e := f.Push(b); e != api.ErrNil {
			t.Errorf("Push(%x) = %d", b, e)
		}
	}
	for range 2 {
		if e := f.End(); e != api.ErrNil {
			t.Errorf("End() = %d", e)
		}
	}
	if c, how := f.Peek(); c != (api.Char{}) || how != api.Have {
		t.Errorf("Peek() = %v, %d", c, how)
	}
	if c, how := f.Next(); c != (api.Char{}) || how != api.Have {
		t.Errorf("Next() = %v, %d", c, how)
	}
	if b := f.Rest(); len(b) != 0 {
		t.Errorf("Rest() = %x", b)
	}
	if at := f.Place(); at != (api.Place{}) {
		t.Errorf("Place() = %v", at)
	}
}

// P1: of a Feed that New didn't make nothing is promised but that the calls end.
func TestOtherFeedsEnd(t *testing.T) {
	f := new(feed.Feed)
	f.Push([]byte("a\r\n\xE2\x82"))
	for range 9 {
		f.Peek()
		f.Next()
		f.Rest()
		f.Place()
	}
	f.End()
	f.Push(nil)
}

// P4.7: the caller's piece is neither changed nor kept, its spare room too.
func TestPiecesAreNotKept(t *testing.T) {
	const text = "aé\r\n\u20ac\rb\xE2"
	room := append([]byte(text), "spare room"...)
	whole := bytes.Clone(room)
	piece := room[:len(text)]
	f, g := feed.New(), fed(t, text)
	if e := f.Push(piece); e != api.OK {
		t.Fatal(e)
	}
	next(t, f, char('a', 1, place(0, 0, 1, 1)), api.Have)
	g.Next()
	push(t, f, "\x82")
	push(t, g, "\x82")
	f.Rest()
	if !bytes.Equal(room, whole) {
		t.Fatalf("P4.7: the piece was changed to %x", room)
	}
	for i := range room {
		room[i] = 'x'
	}
	rest(t, f, "\xE2\x82")
	for {
		c, how := g.Next()
		next(t, f, c, how)
		if how != api.Have {
			break
		}
	}
	rest(t, f, "\xE2\x82")
}

// P4.7: one buffer that the caller fills anew for each piece.
func TestPiecesInOneBuffer(t *testing.T) {
	const text = "<é\r\n\u20ac>\r\U0001F600\r"
	f, g := feed.New(), fed(t, text)
	buffer := make([]byte, 1, 8)
	for _, x := range []byte(text) {
		buffer[0] = x
		if e := f.Push(buffer); e != api.OK {
			t.Fatal(e)
		}
	}
	end(t, f)
	end(t, g)
	for how := api.Have; how == api.Have; {
		var c api.Char
		c, how = g.Next()
		next(t, f, c, how)
	}
}

// P4.7: what Rest answered is the caller's, its spare room too.
func TestRestIsNewMemory(t *testing.T) {
	for _, c := range []struct{ ahead, begun, last string }{
		{"", "\xE2\x82", "\xAC"}, {"ab", "\xF0\x9F\x98", "\x80"}, {"ab", "\r", "\n"}, {"", "\r", "c"}, {"abc", "", "é"},
	} {
		f, g := fed(t, c.ahead+c.begun), fed(t, c.ahead+c.begun)
		first, second := f.Rest(), f.Rest()
		spoil(first)
		if string(second) != c.begun {
			t.Fatalf("P4.7: two answers of Rest share memory: %x", second)
		}
		rest(t, f, c.begun)
		spoil(second)
		push(t, f, c.last)
		push(t, g, c.last)
		spoil(first)
		end(t, f)
		end(t, g)
		for how := api.Have; how == api.Have; {
			var want api.Char
			want, how = g.Next()
			next(t, f, want, how)
		}
	}
}

func spoil(b []byte) {
	b = b[:cap(b)]
	for i := range b {
		b[i] ^= 0x55
	}
}

// P4.7: what Rest answered stays as it is, whatever the Feed does.
func TestRestStays(t *testing.T) {
	f := fed(t, "a\xE2")
	b := f.Rest()
	f.Next()
	push(t, f, "\x82\xACzzzz")
	for range 9 {
		f.Next()
	}
	push(t, f, "yyyyyyyy")
	if string(b) != "\xE2" {
		t.Errorf("P4.7: what Rest answered has become %x", b)
	}
}

// P4.4, P4.6: long texts, in pieces of many sizes, some taken late; a test's limit of time is what it would fail by if each Push went through all that lies there.
func TestLong(t *testing.T) {
	const times = 100000
	unit := "é\r\n\u20ac\r\U0001F600a\n"
	text := strings.Repeat(unit, times)
	for _, size := range []int{1, 3, 7, 4096, len(text)} {
		f := feed.New()
		got := 0
		for from := 0; from < len(text); from += size {
			push(t, f, text[from:min(from+size, len(text))])
			f.Rest()
			// Less than what came is taken, so that more and more lies there.
			for range (size + 1) / 2 {
				if _, how := f.Next(); how == api.Have {
					got++
				}
			}
		}
		end(t, f)
		for {
			if _, how := f.Next(); how != api.Have {
				break
			}
			got++
		}
		if got != 7*times {
			t.Fatalf("P4.6: pieces of %d: %d characters", size, got)
		}
		stands(t, f, place(len(text), 8*times, 3*times+1, 1))
	}
}

// heap: the bytes that are in use.
func heap() int64 {
	runtime.GC()
	var m runtime.MemStats
	runtime.ReadMemStats(&m)
	return int64(m.HeapAlloc)
}

// What is kept is no more than the promises need: neither what was taken nor what comes behind a wrong byte.
func TestKeepsLittle(t *testing.T) {
	piece := strings.Repeat("é\r\n", 4096)
	for _, first := range []string{"", "\xFF"} {
		f := fed(t, first)
		before := heap()
		for range 1024 {
			push(t, f, piece)
			for how := api.Have; how == api.Have; {
				_, how = f.Next()
			}
		}
		if more := heap() - before; more > 1<<20 {
			t.Errorf("behind %x, %d pieces of %d bytes: %d bytes are kept", first, 1024, len(piece), more)
		}
		runtime.KeepAlive(f)
	}
}
