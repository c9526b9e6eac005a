package scan_test

import (
	"strings"
	"testing"
	"time"

	"gimlet/api"
	"gimlet/runes"
	"gimlet/scan"
)

// want: what a call of Next answers. Places by their bytes: of Bad from.
type want struct {
	in       api.Inside
	name     string
	how      api.How
	kind     api.TokenKind
	word     string // the text, or the name
	from, to int
	attrs    []api.Attr
}

func text(in api.Inside, name, s string, from, to int) want {
	return want{in, name, api.Have, api.TokenText, s, from, to, nil}
}

func open(in api.Inside, name, tag string, from, to int, attrs ...api.Attr) want {
	return want{in, name, api.Have, api.TokenOpen, tag, from, to, attrs}
}

func empty(in api.Inside, name, tag string, from, to int, attrs ...api.Attr) want {
	return want{in, name, api.Have, api.TokenEmpty, tag, from, to, attrs}
}

func shut(name, tag string, from, to int) want {
	return want{api.Within, name, api.Have, api.TokenClose, tag, from, to, nil}
}

func bad(in api.Inside, name string, at int) want {
	return want{in: in, name: name, how: api.Bad, from: at}
}

func wait(in api.Inside, name string) want { return want{in: in, name: name, how: api.Wait} }

func done(in api.Inside) want { return want{in: in, how: api.Done} }

// trial: a Scanner, and all that was pushed to it.
type trial struct {
	t   *testing.T
	s   *scan.Scanner
	all string
}

func newTrial(t *testing.T) *trial { return &trial{t: t, s: scan.New()} }

func (x *trial) push(s string) *trial {
	x.t.Helper()
	if e := x.s.Push([]byte(s)); e != api.OK {
		x.t.Fatalf("P6.1: Push(%q): %d", s, e)
	}
	x.all += s
	return x
}

func (x *trial) end() *trial {
	x.t.Helper()
	if e := x.s.End(); e != api.OK {
		x.t.Fatalf("P6.1: %q: End: %d", x.all, e)
	}
	return x
}

func (x *trial) place(at int) api.Place {
	p, _ := runes.At([]byte(x.all), at)
	return p
}

func (x *trial) next(list ...want) *trial {
	x.t.Helper()
	for _, w := range list {
		k, at, how := x.s.Next(w.in, w.name)
		var wantK api.Token
		var wantAt api.Place
		switch w.how {
		case api.Have:
			wantK = api.Token{Kind: w.kind, Attrs: w.attrs, From: x.place(w.from), To: x.place(w.to)}
			if w.kind == api.TokenText {
				wantK.Text = w.word
			} else {
				wantK.Name = w.word
			}
		case api.Bad:
			wantAt = x.place(w.from)
		}
		if how != w.how || at != wantAt || !sameToken(k, wantK) {
			x.t.Fatalf("P6.2, P6.3: %q: Next(%d, %q): %+v %v %d, want %+v %v %d", x.all, w.in, w.name, k, at, how, wantK, wantAt, w.how)
		}
	}
	return x
}

const (
	before = api.Before
	within = api.Within
	after  = api.After
)

func TestExamples(t *testing.T) {
	newTrial(t).push("<a>x</a>").next(open(before, "", "a", 0, 3), text(within, "a", "x", 3, 4), shut("a", "a", 4, 8), wait(after, "")).end().next(done(after))
	newTrial(t).push(" <!-- c --><a b='1' c = \"2\"/>").next(empty(before, "", "a", 11, 29, api.Attr{Name: "b", Value: "1"}, api.Attr{Name: "c", Value: "2"}))
	newTrial(t).push("x&amp;<!--c--><![CDATA[<]]>y</a").next(wait(within, "a")).push(">").next(text(within, "a", "x&<y", 0, 28))
	newTrial(t).push("x").next(bad(before, "", 0))
	newTrial(t).push("</a>").next(bad(before, "", 1))
	newTrial(t).push("<a").next(bad(after, "", 1))
	newTrial(t).push(" <!-").next(wait(after, "")).end().next(bad(after, "", 4))
	newTrial(t).push(" <!-- -->").next(wait(after, "")).end().next(done(after))
	newTrial(t).push("</ab>").next(bad(within, "a", 3), bad(within, "abc", 4), shut("ab", "ab", 0, 5))
	newTrial(t).push("<a b='1' b='2'>").next(bad(before, "", 10))
	newTrial(t).push("<a b='1'c='2'>").next(bad(before, "", 8))
	newTrial(t).push("a]]>").next(bad(within, "a", 3))
	newTrial(t).push("a]]&gt;</a>").next(text(within, "a", "a]]>", 0, 7))
	newTrial(t).push("&#xD800;").next(bad(within, "a", 7))
	newTrial(t).push("&#x110000;").next(bad(within, "a", 8))
	newTrial(t).push("&#0;").next(bad(within, "a", 3))
	newTrial(t).push("&foo;").next(bad(within, "a", 1))
	newTrial(t).push("\r\n\r<a>").next(text(within, "a", "\n\n", 0, 3))
	newTrial(t).push("<a b='\r\n\t'>").next(open(before, "", "a", 0, 11, api.Attr{Name: "b", Value: "  "}))
	newTrial(t).push("\xC3").next(wait(within, "a"))
	newTrial(t).push("\xC3(").next(bad(within, "a", 1))
	newTrial(t).push("\xED\xA0").next(bad(within, "a", 1))
	newTrial(t).push("\x01").next(bad(within, "a", 0))
	newTrial(t).push("<\xC3\x97").next(bad(within, "a", 2))
}

// TestWhereItIs: the same bytes, told to be elsewhere; any other number counts as After.
func TestWhereItIs(t *testing.T) {
	for _, in := range []api.Inside{after, 3, 7, -1, 1 << 40, -1 << 62} {
		newTrial(t).push(" <!-- -->\r").next(wait(in, "a")).end().next(done(in), bad(before, "", 10), bad(within, "a", 10))
		newTrial(t).push("<a>").next(bad(in, "a", 1), bad(in, "", 1), open(before, "", "a", 0, 3))
		newTrial(t).push("</a>").next(bad(in, "a", 1), shut("a", "a", 0, 4))
		newTrial(t).push("<![").next(bad(in, "", 2), bad(before, "", 2), wait(within, ""))
		newTrial(t).push("&").next(bad(in, "", 0), bad(before, "", 0), wait(within, ""))
	}
	newTrial(t).push("<a>").next(open(before, "what", "a", 0, 3))
	newTrial(t).push("<!---->x<b>").next(text(within, "a", "x", 7, 8), bad(after, "", 9), open(before, "", "b", 8, 11))
	newTrial(t).push("x</a>").next(text(within, "a", "x", 0, 1), bad(within, "b", 3), bad(before, "", 2), shut("a", "a", 1, 5))
	newTrial(t).push("x<a><b>").next(text(within, "a", "x", 0, 1), open(within, "b", "a", 1, 4), open(within, "a", "b", 4, 7))
}

// TestOtherNames: P6.2, names that no document has.
func TestOtherNames(t *testing.T) {
	newTrial(t).push("</>").next(bad(within, "a", 2), shut("", "", 0, 3))
	newTrial(t).push("</ >").next(shut("", "", 0, 4))
	newTrial(t).push("</x").next(bad(within, "", 2))
	newTrial(t).push("</1 2>").next(bad(within, "1 3", 4), shut("1 2", "1 2", 0, 6))
	newTrial(t).push("</<!-->>>").next(shut("<!-->", "<!-->", 0, 8))
	newTrial(t).push("</\xFF\x00>").next(bad(within, "\xFF", 3), shut("\xFF\x00", "\xFF\x00", 0, 5))
	newTrial(t).push("</\xC3\xA9>").next(bad(within, "\xC3", 3), shut("é", "é", 0, 5))
	newTrial(t).push("</\xC3>\xA9</\xC3").next(shut("\xC3", "\xC3", 0, 4), bad(within, "\xC3", 4))
	newTrial(t).push("</a\r\n>\x01").next(bad(within, "a\rb", 4), shut("a\r", "a\r", 0, 6), bad(within, "a", 6))
	newTrial(t).push("</a\r").next(wait(within, "a\r"), wait(within, "a\r\n")).push("\n").next(wait(within, "a\r\n"), wait(within, "a\r")).push(">").next(shut("a\r\n", "a\r\n", 0, 6))
	newTrial(t).push("</\r\r\xE2\x82").next(wait(within, "\r\r€")).end().next(bad(within, "\r\r€", 6), bad(within, "\r\r\xE2\x82", 6), bad(within, "\r\r", 4))
	newTrial(t).push("</\r\xE2\x82 \n>\x02").next(shut("\r\xE2\x82", "\r\xE2\x82", 0, 8), bad(within, "", 8))
}

func TestTokens(t *testing.T) {
	newTrial(t).push("<![CDATA[]]><!--x-->y<![CDATA[]]]]></a >").next(text(within, "a", "y]]", 20, 35), shut("a", "a", 35, 40))
	newTrial(t).push("<![CDATA[]]><!----><a/>").next(empty(within, "b", "a", 19, 23))
	newTrial(t).push("<!----><![CDATA[]]]><a/>").next(text(within, "b", "]", 7, 20), empty(within, "b", "a", 20, 24))
	newTrial(t).push("<![CDATA[]]><![CDATA[\r]]>&#13;<a/>").next(text(within, "b", "\n\r", 12, 30))
	newTrial(t).push("&#x20;<a/>").next(text(within, "b", " ", 0, 6))
	newTrial(t).push("<![CDATA[<a>&amp;]]></a>").next(text(within, "a", "<a>&amp;", 0, 20))
	newTrial(t).push("<!-->--><a>").next(open(before, "", "a", 8, 11))
	newTrial(t).push("<!--->--><a>").next(open(before, "", "a", 9, 12))
	newTrial(t).push("]]<!---->><![CDATA[]]>]]<![CDATA[>]]>&#93;]></a>").next(text(within, "a", "]]>]]>]]>", 0, 44))
	newTrial(t).push("<![CDATA[]]]]>>]]></a>").next(bad(within, "a", 17))
	newTrial(t).push("<a b='\"&quot;&#x9;&#10;&#xd;\t\n\r\n\r>' c=\"'&apos;&lt;]]>\"\t>").next(open(before, "", "a", 0, 56, api.Attr{Name: "b", Value: "\"\"\t\n\r    >"}, api.Attr{Name: "c", Value: "''<]]>"}))
	newTrial(t).push("<é\r\n\té\r=\n''\r\nè\t=\r\"\"\r/></é\r\n\t >").next(empty(before, "", "é", 0, 25, api.Attr{Name: "é"}, api.Attr{Name: "è"}), shut("é", "é", 25, 34))
	newTrial(t).push("<z y='' x='' Z=''>").next(open(within, "", "z", 0, 18, api.Attr{Name: "y"}, api.Attr{Name: "x"}, api.Attr{Name: "Z"}))
	newTrial(t).push("\n").next(wait(within, "a")).push("<a>\r").next(text(within, "a", "\n", 0, 1), open(within, "a", "a", 1, 4), wait(within, "a")).push("\x01").next(bad(within, "a", 5))
}

// TestBadAtOnce: P6.4; the bad byte stands behind the |, and what stands ahead of it waits.
func TestBadAtOnce(t *testing.T) {
	for _, s := range []string{
		"|x", "|&", "|]", "<|/", "<|1", "<|\r", "<| ", "<|>", "<|\x80", "<\xC3|\x97", "<\xF3|\xB0", "<\xE2|(", "<!|\r", "<!|x", "<!|[", "<!-| ", "<!----|x", "<!----|-", "<!-- --|\r", "<!--|\x00", "<!--\xED|\xA0",
		"<a/| ", "<a/|\r", "<a|=", "<a|'", "<a|<", "<a\xC3|\x97", "<a |=", "<a |1", "<a |\xC2\xB7", "<a b\xC2|\xB6", "<a b|/", "<a b|>", "<a b|'", "<a b |c", "<a b\r|c", "<a b =|x", "<a b= |>", "<a b=''|c", "<a b='' |'", "<a b=''/|/",
		"<a b='|<", "<a b='&|'", "<a b='&am|'", "<a b='&#|;", "<a b='&#x|;", "<a b='&#0|;", "<a b='&#xD800|;", "<a b='&#1114111|1", "<a b='&#x|\xC3", "<a b='&|\r", "<a b='\xEF\xBF|\xBE", "<a b='\xF4|\x90", "<a b='|\xFF", "<a b='|\x00",
		"<a b='' b|=", "<a b='' b|\r", "<a b='' b| ", "<a b='' b|\n", "<a b='' b|\t", "<a é='' é|=", "<a b='' bb='' b|=", "<a b='' c='' d='' c| ",
	} {
		badAt(t, s, before)
	}
	for _, s := range []string{
		"|\x00", "|\x0B", "x|\x1F", "\xC3|(", "\xED|\xA0", "\xEF\xBF|\xBE", "|\xC0", "|\xF5", "]]|>", "x]]]|>", "&amp;]]|>", "<!---->]]|>", "<![CDATA[]]>]]|>",
		"&|;", "&|x", "&|\r", "&|<", "&|&", "&am|;", "&amp|x", "&#|;", "&#|X", "&#x|;", "&#x|g", "&#0|;", "&#11|;", "&#xFFFE|;", "&#xDFFF|;", "&#x11000|0", "&#111411|2", "&#00|\xC3", "&#x0041|\r",
		"<!|\r", "<!|D", "<![|c", "<![CDATA|\r", "<![CDATA[|\x0C", "<![CDATA[]]\xEF\xBF|\xBF", "</|b", "</|\xC3", "</a|b", "</a|/", "</a |a", "</a\r|=", "<|1", "<|<", "<b/|a",
	} {
		badAt(t, s, within)
	}
	for _, s := range []string{"|x", "|\x80", "|&", "|]", "<|a", "<|/", "<|\xC3", "<|\r", "<!|[", "<!|\xC3", "\r|\x00", "<!-- --|-", "<!----> <!-| "} {
		badAt(t, s, after)
	}
}

func badAt(t *testing.T, s string, in api.Inside) {
	t.Helper()
	ahead, behind, _ := strings.Cut(s, "|")
	b := bad(in, "a", len(ahead))
	newTrial(t).push(ahead).next(wait(in, "a")).push(behind[:1]).next(b).push("'>--></a>").next(b, b).end().next(b)
	newTrial(t).push(ahead).next(wait(in, "a")).end().next(atEnd(in, ahead))
}

// atEnd: none of these beginnings is what may come, but of blanks and comments.
func atEnd(in api.Inside, s string) want {
	if in == after && !strings.HasSuffix(strings.ReplaceAll(s, "<!---->", ""), "<") && !strings.Contains(s, "<!") {
		return done(in)
	}
	return bad(in, "a", len(s))
}

// TestStillGood: what may yet go on waits, and is bad at the end alone.
func TestStillGood(t *testing.T) {
	for _, s := range []string{"", "x", "]]", "]", "&", "&#", "&#x", "&#0", "&#xD800", "&#x10FFFF", "&#1114111", "&apo", "\xF4\x8F\xBF", "\xEF\xBF", "\r", "\r\n", "<", "<!", "<!-", "<!--", "<!--->", "<!-- --", "<![CDAT", "<![CDATA[]]", "<![CDATA[]]>", "<a", "<a\r", "<a/", "<a b", "<a b\r", "<a b=", "<a b='", "<a b='&lt", "<a b='' ", "<a b='' b", "<a b='' \xC3", "</", "</a", "</a\r", "x<a b='>'"} {
		newTrial(t).push(s).next(wait(within, "a")).push("").next(wait(within, "a"), wait(within, "a")).end().next(bad(within, "a", len(s)), bad(within, "a", len(s)))
	}
}

func TestCalls(t *testing.T) {
	var none *scan.Scanner
	if none.Push(nil) != api.ErrNil || none.Push([]byte("<a>")) != api.ErrNil || none.End() != api.ErrNil || none.End() != api.ErrNil {
		t.Error("P6.1: a nil Scanner answers ErrNil")
	}
	for _, in := range []api.Inside{before, within, after, -9} {
		if k, at, how := none.Next(in, "a"); how != 0 || at != (api.Place{}) || !sameToken(k, api.Token{}) {
			t.Errorf("P6.2: a nil Scanner: %v %v %d", k, at, how)
		}
	}
	s := scan.New()
	if s == nil || s == scan.New() {
		t.Fatal("P6.1: New answers a new Scanner")
	}
	if s.Push(nil) != api.OK || s.Push([]byte{}) != api.OK || s.End() != api.OK {
		t.Error("P6.1: OK")
	}
	if s.End() != api.ErrEnded || s.Push(nil) != api.ErrEnded || s.Push([]byte("<a>")) != api.ErrEnded || s.End() != api.ErrEnded {
		t.Error("P6.1: ErrEnded behind the end")
	}
	if _, at, how := s.Next(before, ""); how != api.Bad || at != (api.Place{Line: 1, Column: 1}) {
		t.Errorf("P6.1: what is pushed behind the end changes nothing: %v %d", at, how)
	}
	if _, _, how := s.Next(after, ""); how != api.Done {
		t.Errorf("P6.2: nothing, and the end: %d", how)
	}
}

// TestBehindTheEnd: tokens are told behind the end, too.
func TestBehindTheEnd(t *testing.T) {
	newTrial(t).push("<a>x</a>\r").end().next(open(before, "", "a", 0, 3), text(within, "a", "x", 3, 4), shut("a", "a", 4, 8), bad(within, "", 9), done(after), done(after))
	newTrial(t).push("<a>x\r").end().next(open(before, "", "a", 0, 3), bad(within, "a", 5), bad(after, "", 3), bad(before, "", 3), bad(within, "b", 5))
}

// TestPlaces: all four numbers.
func TestPlaces(t *testing.T) {
	s := scan.New()
	s.Push([]byte("\r\n\r<!--\n€\n--> <é\ra='\n'>€\r\n\n<b/>\r\xF0\x9F"))
	k, _, _ := s.Next(before, "")
	if k.From != (api.Place{Byte: 16, Rune: 14, Line: 5, Column: 5}) || k.To != (api.Place{Byte: 26, Rune: 23, Line: 7, Column: 3}) {
		t.Errorf("P6.3: %v", k)
	}
	k, _, _ = s.Next(within, "é")
	if k.From != (api.Place{Byte: 26, Rune: 23, Line: 7, Column: 3}) || k.To != (api.Place{Byte: 32, Rune: 27, Line: 9, Column: 1}) {
		t.Errorf("P6.3: %v", k)
	}
	k, _, _ = s.Next(within, "é")
	if k.From != (api.Place{Byte: 32, Rune: 27, Line: 9, Column: 1}) || k.To != (api.Place{Byte: 36, Rune: 31, Line: 9, Column: 5}) {
		t.Errorf("P6.3: %v", k)
	}
	s.Push([]byte("a"))
	if _, at, how := s.Next(within, "é"); how != api.Bad || at != (api.Place{Byte: 39, Rune: 34, Line: 10, Column: 3}) {
		t.Errorf("P6.2: %v %d", at, how)
	}
}

// TestMemory: what is handed in is neither changed nor kept, and tokens are new memory.
func TestMemory(t *testing.T) {
	room := []byte("x<a b='1' c='2'>rest")
	b := room[:16]
	s := scan.New()
	s.Push(b)
	s.Push([]byte("y</"))
	if string(room) != "x<a b='1' c='2'>rest" {
		t.Errorf("rule 5: what was pushed was changed: %q", room)
	}
	for i := range room {
		room[i] = '#'
	}
	if k, _, _ := s.Next(within, "z"); k.Text != "x" {
		t.Errorf("rule 5: what was pushed was kept: %q", k.Text)
	}
	k, _, _ := s.Next(within, "z")
	if len(k.Attrs) != 2 || k.Attrs[0] != (api.Attr{Name: "b", Value: "1"}) || k.Attrs[1] != (api.Attr{Name: "c", Value: "2"}) {
		t.Fatalf("P6.3: %v", k)
	}
	spare := k.Attrs[:cap(k.Attrs)]
	for i := range spare {
		spare[i] = api.Attr{Name: "n", Value: "v"}
	}
	s.Push([]byte("a><d b='1' e='2' f='3'/>"))
	s.Next(within, "a")
	s.Next(within, "a")
	k2, _, _ := s.Next(within, "z")
	if k2.Name != "d" || len(k2.Attrs) != 3 || k2.Attrs[0] != (api.Attr{Name: "b", Value: "1"}) || spare[0].Name != "n" || spare[1].Name != "n" {
		t.Errorf("rule 5: tokens share memory: %v %v", k2, spare)
	}
}

// TestTwoScanners: they have nothing in common.
func TestTwoScanners(t *testing.T) {
	one, two := newTrial(t).push("<a b='"), newTrial(t).push("<!--")
	one.next(wait(before, ""))
	two.next(wait(before, ""))
	one.push("-->'>").next(open(before, "", "a", 0, 11, api.Attr{Name: "b", Value: "-->"}))
	two.push("--><b>").next(open(before, "", "b", 7, 10))
}

// TestMadeOtherwise: rule 6, the calls end.
func TestMadeOtherwise(t *testing.T) {
	s := &scan.Scanner{}
	s.Next(before, "")
	s.Push([]byte("<a>x<![CDATA[]]></a>"))
	for _, in := range []api.Inside{before, within, within, after, 9} {
		s.Next(in, "a")
	}
	s.End()
	s.Next(after, "")
}

// TestLongPieces: a byte is gone through a few times at most, however the bytes are cut and however long one thing is. (Else these would take hours.)
func TestLongPieces(t *testing.T) {
	t.Parallel()
	const n = 200000
	long := func(s string) string { return strings.Repeat(s, n/len(s)) }
	var many strings.Builder
	for i := range n / 10 {
		many.WriteString(" a" + strings.Repeat("x", i%7) + string(rune(0x4E00+i)) + "=''")
	}
	start := time.Now()
	for _, s := range []string{
		long("x") + "<b/>", long("\r") + "<b/>", long("é") + "</a>", "&#" + long("0") + "65;<b/>", "&#x" + long("0") + "65;<b/>", "<!--" + long("- ") + "--></a>", "<![CDATA[" + long("]") + "]]></a>",
		"<" + long("b") + "/>", "<b" + long("\n") + "/>", "<b " + long("c") + "=''>", "<b c" + long(" ") + "='" + long("\r\n") + "&#" + long("0") + "9;'>", "</a" + long(" ") + ">", long("&amp;") + "<b>", "<b" + many.String() + ">", long("x<b/>"), long("<b/>"), long("</a>"),
	} {
		s += "\x00" + long("x")
		a, b := scan.New(), scan.New()
		a.Push([]byte(s))
		countA, countB := tokens(a), 0
		for i := range len(s) {
			b.Push([]byte{s[i]})
			countB += tokens(b)
		}
		if countA != countB || countA == 0 {
			t.Errorf("P6.5: %q..: %d tokens in one piece, %d byte by byte", s[:20], countA, countB)
		}
	}
	if took := time.Since(start); took > time.Minute {
		t.Errorf("long pieces take %v", took)
	}
}

// tokens: how many there are.
func tokens(s *scan.Scanner) int {
	n := 0
	for {
		if _, _, how := s.Next(within, "a"); how != api.Have {
			return n
		}
		n++
	}
}
