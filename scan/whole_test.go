package scan_test

import (
	"regexp"
	"slices"
	"strconv"
	"strings"
	"testing"
	"unicode/utf8"

	"gimlet/api"
	"gimlet/chars"
	"gimlet/runes"
	"gimlet/scan"
)

// What follows holds a Scanner against the document's own words: a rest is gone through from its beginning at each call, and the first bad byte is found by its beginnings, one after the other.

// fate: what bytes are as to what may come.
type fate int

const (
	wrong fate = iota // no bytes behind them make them that
	begun             // some bytes behind them do, or none
	whole             // they hold it, a whole tag at its end
)

// found: what a rest holds.
type found struct {
	fate     fate
	misc     bool // blanks and comments all through
	text     string
	textFrom int
	tagFrom  int
	end      int // behind the tag
	kind     api.TokenKind
	name     string
	attrs    []api.Attr
}

// heads: of each class of which characters of several bytes matter the proper beginnings of their bytes.
type heads map[api.Class]map[string]int

func headsOf() heads {
	list := heads{}
	for _, c := range []api.Class{api.Allowed, api.NameStart, api.NameRest} {
		list[c] = map[string]int{}
		for r := rune(0x80); r <= utf8.MaxRune; r++ {
			if chars.Is(c, r) {
				for s := string(r); len(s) > 1; {
					s = s[:len(s)-1]
					list[c][s]++
				}
			}
		}
	}
	return list
}

// reader goes through a rest; it gives up by a panic with the fate.
type reader struct {
	heads heads
	rest  string
	at    int
	in    api.Inside
	name  string
	out   found
}

func (p *reader) left() string { return p.rest[p.at:] }

func (p *reader) is(ok bool) {
	if !ok {
		panic(wrong)
	}
}

// more: there must be at least a byte.
func (p *reader) more() {
	if p.left() == "" {
		panic(begun)
	}
}

func (p *reader) word(w string) {
	if strings.HasPrefix(w, p.left()) && w != p.left() {
		panic(begun)
	}
	p.is(strings.HasPrefix(p.left(), w))
	p.at += len(w)
}

// char: the next one, if it is of the class.
func (p *reader) char(c api.Class) (rune, bool) {
	p.more()
	if p.heads[c][p.left()] > 0 {
		panic(begun)
	}
	r, n := utf8.DecodeRuneInString(p.left())
	if r == utf8.RuneError && n == 1 || !chars.Is(c, r) {
		return 0, false
	}
	p.at += n
	return r, true
}

func (p *reader) blanks() int {
	n := len(p.left()) - len(strings.TrimLeft(p.left(), " \t\r\n"))
	p.at += n
	return n
}

func (p *reader) aName() string {
	from := p.at
	_, ok := p.char(api.NameStart)
	p.is(ok)
	for ok {
		_, ok = p.char(api.NameRest)
	}
	return p.rest[from:p.at]
}

// allowed: characters all through; where the rest ends with them the last one needn't be whole.
func (p *reader) allowed(s string, last bool) bool {
	for n := range min(len(s)+1, 4) {
		if last && p.heads[api.Allowed][s[len(s)-n:]] > 0 {
			s = s[:len(s)-n]
			break
		}
	}
	return chars.Texts(s)
}

func lineEnds(s string) string {
	return strings.ReplaceAll(strings.ReplaceAll(s, "\r\n", "\n"), "\r", "\n")
}

// until: what stands ahead of the mark.
func (p *reader) until(mark string) string {
	s, _, ok := strings.Cut(p.left(), mark)
	p.is(p.allowed(s, !ok))
	if !ok {
		panic(begun)
	}
	p.at += len(s)
	return s
}

func (p *reader) add(s string, from int) {
	if p.out.text == "" && s != "" {
		p.out.textFrom = from
	}
	p.out.text += s
}

var whole10 = regexp.MustCompile(`^&#[0-9]+;`)
var whole16 = regexp.MustCompile(`^&#x[0-9a-fA-F]+;`)
var begun10 = regexp.MustCompile(`^&#[0-9]*$`)
var begun16 = regexp.MustCompile(`^&#x[0-9a-fA-F]*$`)

// number: of a reference; above all characters where it is.
func number(ref, ahead string, base int) rune {
	s := strings.TrimLeft(strings.TrimSuffix(strings.TrimPrefix(ref, ahead), ";"), "0")
	n, err := strconv.ParseInt("0"+s, base, 32)
	if err != nil || n > utf8.MaxRune {
		return utf8.MaxRune + 1
	}
	return rune(n)
}

func (p *reader) reference() string {
	for _, n := range [][2]string{{"&amp;", "&"}, {"&lt;", "<"}, {"&gt;", ">"}, {"&quot;", "\""}, {"&apos;", "'"}} {
		if strings.HasPrefix(p.left(), n[0]) {
			p.at += len(n[0])
			return n[1]
		}
		if strings.HasPrefix(n[0], p.left()) {
			panic(begun)
		}
	}
	r := rune(-1)
	s := whole10.FindString(p.left())
	if s != "" {
		r = number(s, "&#", 10)
	} else if s = whole16.FindString(p.left()); s != "" {
		r = number(s, "&#x", 16)
	}
	if chars.Is(api.Allowed, r) {
		p.at += len(s)
		return string(r)
	}
	if begun10.MatchString(p.left()) && number(p.left(), "&#", 10) <= utf8.MaxRune || begun16.MatchString(p.left()) && number(p.left(), "&#x", 16) <= utf8.MaxRune {
		panic(begun)
	}
	panic(wrong)
}

func (p *reader) content() {
	within := p.in == api.Within
	for {
		from := p.at
		s := p.left()
		switch {
		case s == "":
			p.out.misc = true
			panic(begun)
		case strings.HasPrefix("<!-", s):
			panic(begun)
		case strings.HasPrefix(s, "<!--"):
			p.at += len("<!--")
			p.until("--")
			p.word("-->")
		case within && strings.HasPrefix("<![CDATA", s):
			panic(begun)
		case within && strings.HasPrefix(s, "<![CDATA["):
			p.at += len("<![CDATA[")
			p.add(lineEnds(p.until("]]>")), from)
			p.at += len("]]>")
		case s[0] == '<':
			p.out.tagFrom = p.at
			p.tag()
		case within && s[0] == '&':
			p.add(p.reference(), from)
		case within:
			p.written()
		default:
			p.is(p.blanks() > 0)
		}
	}
}

// written: characters that are written as they are.
func (p *reader) written() {
	from := p.at
	s := p.left()
	if n := strings.IndexAny(s, "<&"); n >= 0 {
		s = s[:n]
	}
	p.is(!strings.Contains(s, "]]>"))
	p.is(p.allowed(s, s == p.left()))
	p.at += len(s)
	p.add(lineEnds(s), from)
}

func (p *reader) tag() {
	p.word("<")
	p.more()
	if p.in == api.Within && p.left()[0] == '/' {
		p.word("/")
		p.word(p.name)
		p.blanks()
		p.word(">")
		p.whole(api.TokenClose, p.name)
	}
	p.is(p.in == api.Before || p.in == api.Within)
	name := p.aName()
	for {
		gap := p.blanks()
		p.more()
		switch {
		case p.left()[0] == '/':
			p.word("/>")
			p.whole(api.TokenEmpty, name)
		case p.left()[0] == '>':
			p.word(">")
			p.whole(api.TokenOpen, name)
		}
		p.is(gap > 0)
		p.attr()
	}
}

func (p *reader) whole(kind api.TokenKind, name string) {
	p.out.kind, p.out.name, p.out.end = kind, name, p.at
	panic(whole)
}

func (p *reader) attr() {
	a := api.Attr{Name: p.aName()}
	p.is(strings.ContainsAny(p.left()[:1], "= \t\r\n"))
	p.is(!slices.ContainsFunc(p.out.attrs, func(x api.Attr) bool { return x.Name == a.Name }))
	p.blanks()
	p.word("=")
	p.blanks()
	p.more()
	quote := p.left()[:1]
	p.is(quote == "'" || quote == "\"")
	p.at++
	for {
		p.more()
		switch s := p.left()[:1]; {
		case s == quote:
			p.at++
			p.out.attrs = append(p.out.attrs, a)
			return
		case s == "&":
			a.Value += p.reference()
		case strings.HasPrefix(p.left(), "\r\n"):
			a.Value += " "
			p.at += 2
		case p.blank():
			a.Value += " "
		default:
			r, ok := p.char(api.Allowed)
			p.is(ok && r != '<')
			a.Value += string(r)
		}
	}
}

func (p *reader) blank() bool {
	ok := strings.ContainsAny(p.left()[:1], " \t\r\n")
	if ok {
		p.at++
	}
	return ok
}

func look(h heads, rest string, in api.Inside, name string) found {
	p := &reader{heads: h, rest: rest, in: in, name: name}
	func() {
		defer func() { p.out.fate = recover().(fate) }()
		p.content()
	}()
	return p.out
}

// model is what the document's words are about.
type model struct {
	heads heads
	all   string
	taken int
	ended bool
}

func (m *model) place(at int) api.Place {
	p, _ := runes.At([]byte(m.all), at)
	return p
}

// next: P6.2 and P6.3.
func (m *model) next(in api.Inside, name string) (api.Token, api.Place, api.How) {
	rest := m.all[m.taken:]
	f := look(m.heads, rest, in, name)
	switch {
	case f.fate == whole && f.text != "":
		t := api.Token{Kind: api.TokenText, Text: f.text, From: m.place(m.taken + f.textFrom), To: m.place(m.taken + f.tagFrom)}
		m.taken += f.tagFrom
		return t, api.Place{}, api.Have
	case f.fate == whole:
		t := api.Token{Kind: f.kind, Name: f.name, Attrs: f.attrs, From: m.place(m.taken + f.tagFrom), To: m.place(m.taken + f.end)}
		m.taken += f.end
		return t, api.Place{}, api.Have
	case f.fate == wrong:
		n := 0
		for look(m.heads, rest[:n+1], in, name).fate != wrong {
			n++
		}
		return api.Token{}, m.place(m.taken + n), api.Bad
	case !m.ended:
		return api.Token{}, api.Place{}, api.Wait
	case in != api.Before && in != api.Within && f.misc:
		return api.Token{}, api.Place{}, api.Done
	}
	return api.Token{}, m.place(len(m.all)), api.Bad
}

// ask: what a call is told.
type ask struct {
	in   api.Inside
	name string
}

// agree: both answer the same; how it went.
func agree(t *testing.T, s *scan.Scanner, m *model, a ask) (api.Token, api.How) {
	t.Helper()
	taken := m.taken
	wantK, wantAt, want := m.next(a.in, a.name)
	k, at, how := s.Next(a.in, a.name)
	if how != want || at != wantAt || !sameToken(k, wantK) {
		t.Fatalf("P6.2, P6.3: %q, %d bytes of it told, ended %v: Next(%d, %q): %+v %v %d, want %+v %v %d", m.all, taken, m.ended, a.in, a.name, k, at, how, wantK, wantAt, want)
	}
	return k, how
}

func sameToken(a, b api.Token) bool {
	return a.Kind == b.Kind && a.Name == b.Name && a.Text == b.Text && a.From == b.From && a.To == b.To && slices.Equal(a.Attrs, b.Attrs)
}

// pieces: all at which something changes, and some that many texts begin with.
func pieces() []string {
	return []string{"<", ">", "/", "!", "-", "[", "]", "=", "'", "\"", "&", ";", "a", "b", "x", "#", "0", " ", "\r", "\n", "\t", "\xC3", "\x97", "\xA9", "\xB7", "\xFF", "\x01", "\xED", "\xA0", "\x80", "\xEF", "\xBF", "\xBE", "\xF3", "\xB0", "amp;", "#x", "D8", "41;", "<!--", "-->", "<![CDATA[", "]]>", "<a", "</a", " a='", "' >", "<b/>"}
}

func asks() []ask {
	return []ask{{api.Before, ""}, {api.Within, "a"}, {api.After, "a"}, {api.Within, ""}, {api.Within, "\xC3"}}
}

// begins: what brings a walk to each of its states.
func begins() []string {
	return []string{"", "<", "<a", "<a ", "<a a", "<a a ", "<a a=", "<a a='", "<a a=\"&", "<a a='&#x", "<a a='' ", "<a a='' a", "<a b='' a='' b", "<a/", "</", "</a", "</a ", "x", "]", "]]", "&", "&#", "&#x", "&#x0", "&#1", "&am", "<!", "<!-", "<!--", "<!---", "<!----", "<!-->", "<![", "<![CDATA", "<![CDATA[", "<![CDATA[]", "<![CDATA[]]", "<![CDATA[]]>", "<!---->", " ", "\r", "\xC3", "\xEF\xBF", "<\xC3", "<a\xC2", "<\xF3"}
}

func TestAllShortTexts(t *testing.T) {
	t.Parallel()
	h := headsOf()
	list := pieces()
	for _, begin := range begins() {
		for _, one := range list {
			for _, two := range list {
				text := begin + one + two
				for _, a := range asks() {
					atOnce(t, h, text, a)
				}
				if t.Failed() {
					return
				}
			}
		}
	}
}

// atOnce: all bytes in one piece, then the end.
func atOnce(t *testing.T, h heads, text string, a ask) {
	t.Helper()
	s, m := scan.New(), &model{heads: h, all: text}
	s.Push([]byte(text))
	toStop(t, s, m, a)
	s.End()
	m.ended = true
	toStop(t, s, m, a)
}

// toStop: asks till there is no token.
func toStop(t *testing.T, s *scan.Scanner, m *model, a ask) {
	t.Helper()
	how := api.Have
	for how == api.Have {
		_, how = agree(t, s, m, a)
	}
}

// TestByteByByte: P6.5, and that asking changes nothing: a Scanner is asked behind each byte, another one for all places in turn.
func TestByteByByte(t *testing.T) {
	t.Parallel()
	h := headsOf()
	list := pieces()
	for _, begin := range begins() {
		for _, one := range list {
			text := begin + one + "<b/>"
			for _, a := range asks() {
				oneByOne(t, h, text, a)
			}
			oneByOne(t, h, text, asks()...)
			if t.Failed() {
				return
			}
		}
	}
}

// oneByOne: each byte is a piece of its own; behind it each of these is asked.
func oneByOne(t *testing.T, h heads, text string, list ...ask) {
	t.Helper()
	s, m := scan.New(), &model{heads: h}
	for i := range len(text) {
		s.Push([]byte{text[i]})
		m.all += text[i : i+1]
		for _, a := range list {
			toStop(t, s, m, a)
			agree(t, s, m, a)
		}
	}
	s.End()
	m.ended = true
	for _, a := range list {
		toStop(t, s, m, a)
	}
}

func documents() []string {
	return []string{
		"<a>x</a>",
		" <!-- c -->\r\n<a b='1' c = \"2\"/>\r<!---->\t",
		"<a>\r\nx\r<b>y\n\r</b><![CDATA[<&]]]>]]&#x26;]]&gt;</a\r>\r",
		"<é-1.·\r\n_é='&amp;&lt;&gt;&quot;&apos;&#00000233;&#x10FFFF;\t\r\n\r\n\n\"'\nb=\"'\"></é-1.·>",
		"<a><!--é--><![CDATA[]]><![CDATA[]]]]><b  /></a>",
		"<a>\U0001F600]<!---->]><a><a></a>]]<![CDATA[>]]></a>\uFFFD\uD7FF</a>\n<!-- - -->",
		"<_ a = '' b= '' c ='' ab='' />",
	}
}

// state is where a document's reader is: layer 7 will say more of it.
type state struct{ names []string }

func (s *state) ask(began bool) ask {
	switch {
	case len(s.names) > 0:
		return ask{api.Within, s.names[len(s.names)-1]}
	case began:
		return ask{api.After, "a"}
	}
	return ask{api.Before, "a"}
}

func (s *state) take(k api.Token) {
	switch k.Kind {
	case api.TokenOpen:
		s.names = append(s.names, k.Name)
	case api.TokenClose:
		s.names = s.names[:len(s.names)-1]
	}
}

// readOn: tokens till there is none.
func readOn(t *testing.T, s *scan.Scanner, m *model, where *state, began bool) (bool, api.How) {
	t.Helper()
	for {
		k, how := agree(t, s, m, where.ask(began))
		if how != api.Have {
			return began, how
		}
		where.take(k)
		began = true
	}
}

// TestDocuments: all in one piece, and in two pieces cut at each byte.
func TestDocuments(t *testing.T) {
	t.Parallel()
	h := headsOf()
	for _, d := range documents() {
		for cut := range len(d) + 1 {
			s, m, where := scan.New(), &model{heads: h}, &state{}
			s.Push([]byte(d[:cut]))
			m.all = d[:cut]
			began, how := readOn(t, s, m, where, false)
			s.Push([]byte(d[cut:]))
			m.all = d
			began, how = readOn(t, s, m, where, began)
			if how != api.Wait {
				t.Fatalf("P6.2: %q, cut at %d: %d", d, cut, how)
			}
			s.End()
			m.ended = true
			if _, how = readOn(t, s, m, where, began); how != api.Done {
				t.Fatalf("P6.2: %q, cut at %d: %d", d, cut, how)
			}
		}
	}
}

// TestOtherBytes: each other byte behind each beginning, at once and once the beginning was asked of; and the end behind each beginning.
func TestOtherBytes(t *testing.T) {
	t.Parallel()
	h := headsOf()
	for _, d := range documents() {
		for n := range len(d) + 1 {
			for x := range 256 {
				otherByte(t, h, d[:n], byte(x), x%2 == 0)
			}
			s, m, where := scan.New(), &model{heads: h, all: d[:n], ended: true}, &state{}
			s.Push([]byte(d[:n]))
			s.End()
			readOn(t, s, m, where, false)
		}
	}
}

func otherByte(t *testing.T, h heads, begin string, x byte, first bool) {
	t.Helper()
	s, m, where := scan.New(), &model{heads: h, all: begin}, &state{}
	began := false
	s.Push([]byte(begin))
	if first {
		began, _ = readOn(t, s, m, where, began)
	}
	s.Push([]byte{x})
	m.all += string([]byte{x})
	readOn(t, s, m, where, began)
}
