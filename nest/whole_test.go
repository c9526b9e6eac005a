package nest_test

import (
	"errors"
	"reflect"
	"regexp"
	"slices"
	"strconv"
	"strings"
	"testing"
	"unicode/utf8"

	"gimlet/api"
	"gimlet/chars"
	"gimlet/nest"
	"gimlet/runes"
)

// What follows holds a Nest against the document's own words: bytes are read as DOC.md's grammar says, from the first on, each time; where they are no beginning the fault is found by their beginnings, one after the other.

// fate: what bytes are as to documents.
type fate int

const (
	wrong fate = iota // no bytes behind them make them one
	begun             // some do
	whole             // they are one
)

// heads: of each class of which characters of several bytes matter the proper beginnings of their bytes.
type heads map[api.Class]map[string]int

func headsOf() heads {
	list := heads{}
	for _, c := range []api.Class{api.Allowed, api.NameStart, api.NameRest} {
		list[c] = map[string]int{}
		for r := rune(0x80); r <= utf8.MaxRune; r++ {
			if chars.Is(c, r) {
				for s := string(r); len(s) > 1; {
					s = s[:len(s)-1]
					list[c][s]++
				}
			}
		}
	}
	return list
}

// reader goes through bytes; it gives up by a panic with their fate.
type reader struct {
	heads    heads
	all      string
	at       int
	nodes    int
	text     string // since the last tag
	textFrom int
	events   []api.Event
}

func (p *reader) left() string { return p.all[p.at:] }

func (p *reader) is(ok bool) {
	if !ok {
		panic(wrong)
	}
}

// more: there must be at least a byte.
func (p *reader) more() {
	if p.left() == "" {
		panic(begun)
	}
}

// word: these bytes. A begun one is no mistake.
func (p *reader) word(w string) {
	if len(p.left()) < len(w) && strings.HasPrefix(w, p.left()) {
		panic(begun)
	}
	p.is(strings.HasPrefix(p.left(), w))
	p.at += len(w)
}

// could: is the word there, or might it be once more bytes come?
func (p *reader) could(w string) bool {
	return strings.HasPrefix(p.left(), w) || strings.HasPrefix(w, p.left())
}

// char: the next one, if it is of the class.
func (p *reader) char(c api.Class) (rune, bool) {
	p.more()
	if p.heads[c][p.left()] > 0 {
		panic(begun)
	}
	r, n := utf8.DecodeRuneInString(p.left())
	if r == utf8.RuneError && n == 1 || !chars.Is(c, r) {
		return 0, false
	}
	p.at += n
	return r, true
}

func (p *reader) blanks() int {
	n := len(p.left()) - len(strings.TrimLeft(p.left(), " \t\r\n"))
	p.at += n
	return n
}

func (p *reader) aName() string {
	from := p.at
	_, ok := p.char(api.NameStart)
	p.is(ok)
	for ok {
		_, ok = p.char(api.NameRest)
	}
	return p.all[from:p.at]
}

// until: allowed characters ahead of the mark; where the mark isn't there the last character needn't be whole.
func (p *reader) until(mark string) string {
	from := p.at
	for !strings.HasPrefix(p.left(), mark) {
		_, ok := p.char(api.Allowed)
		p.is(ok)
	}
	return p.all[from:p.at]
}

func lineEnds(s string) string {
	return strings.ReplaceAll(strings.ReplaceAll(s, "\r\n", "\n"), "\r", "\n")
}

func (p *reader) document() {
	p.misc()
	p.element(1)
	p.misc()
	if p.left() == "<" {
		panic(begun) // a comment may follow
	}
	p.is(p.left() == "")
}

func (p *reader) misc() {
	for {
		p.blanks()
		if !strings.HasPrefix(p.left(), "<!") {
			return
		}
		p.comment()
	}
}

func (p *reader) comment() {
	p.word("<!--")
	p.until("--")
	p.word("-->")
}

func (p *reader) element(depth int) {
	from := p.at
	p.word("<")
	name := p.aName()
	attrs, empty := p.attrs()
	p.tellText(depth)
	number := p.nodes
	p.nodes++
	p.events = append(p.events, api.Event{Kind: api.Open, Number: number, Depth: depth, Name: name, Attrs: attrs, From: from, To: p.at})
	if !empty {
		p.content(depth + 1)
		p.word("</")
		p.word(name)
		p.blanks()
		p.word(">")
		p.tellText(depth + 1)
	}
	p.events = append(p.events, api.Event{Kind: api.Close, Number: number, Depth: depth, Name: name, From: from, To: p.at})
}

// attrs: what stands behind a tag's name; and is the tag an empty one?
func (p *reader) attrs() ([]api.Attr, bool) {
	var list []api.Attr
	for {
		gap := p.blanks()
		p.more()
		switch {
		case p.left()[0] == '/':
			p.word("/>")
			return sorted(list), true
		case p.left()[0] == '>':
			p.word(">")
			return sorted(list), false
		}
		p.is(gap > 0)
		list = append(list, p.attr(list))
	}
}

func sorted(list []api.Attr) []api.Attr {
	slices.SortFunc(list, func(a, b api.Attr) int { return slices.Compare([]rune(a.Name), []rune(b.Name)) })
	return list
}

func (p *reader) attr(ahead []api.Attr) api.Attr {
	a := api.Attr{Name: p.aName()}
	p.is(strings.ContainsAny(p.left()[:1], "= \t\r\n"))
	p.is(!slices.ContainsFunc(ahead, func(x api.Attr) bool { return x.Name == a.Name }))
	p.blanks()
	p.word("=")
	p.blanks()
	p.more()
	quote := p.left()[:1]
	p.is(quote == "'" || quote == "\"")
	p.at++
	for {
		p.more()
		if strings.HasPrefix(p.left(), quote) {
			p.at++
			return a
		}
		a.Value += p.valueChar()
	}
}

func (p *reader) valueChar() string {
	if p.left()[0] == '&' {
		return p.reference()
	}
	if strings.HasPrefix(p.left(), "\r\n") {
		p.at++
	}
	r, ok := p.char(api.Allowed)
	p.is(ok && r != '<')
	if strings.ContainsRune("\t\r\n", r) {
		r = ' '
	}
	return string(r)
}

// content: up to the </ of the end tag.
func (p *reader) content(depth int) {
	for {
		from := p.at
		p.more()
		switch {
		case p.left() == "<" || p.left() == "<!":
			panic(begun)
		case strings.HasPrefix(p.left(), "</"):
			return
		case strings.HasPrefix(p.left(), "<!") && p.could("<!--"):
			p.comment()
		case strings.HasPrefix(p.left(), "<!"):
			p.word("<![CDATA[")
			p.add(lineEnds(p.until("]]>")), from)
			p.at += len("]]>")
		case p.left()[0] == '<':
			p.element(depth)
		case p.left()[0] == '&':
			p.add(p.reference(), from)
		default:
			p.written()
		}
	}
}

// written: characters that are written as they are.
func (p *reader) written() {
	from := p.at
	for p.left() != "" && p.left()[0] != '<' && p.left()[0] != '&' {
		_, ok := p.char(api.Allowed)
		p.is(ok)
		p.is(!strings.Contains(p.all[from:p.at], "]]>"))
	}
	p.add(lineEnds(p.all[from:p.at]), from)
}

func (p *reader) add(s string, from int) {
	if p.text == "" && s != "" {
		p.textFrom = from
	}
	p.text += s
}

// tellText: what stands ahead of a tag that is taken.
func (p *reader) tellText(depth int) {
	if p.text != "" {
		p.events = append(p.events, api.Event{Kind: api.Text, Number: p.nodes, Depth: depth, Text: p.text, From: p.textFrom, To: p.at})
		p.nodes++
	}
	p.text = ""
}

var whole10 = regexp.MustCompile(`^&#[0-9]+;`)
var whole16 = regexp.MustCompile(`^&#x[0-9a-fA-F]+;`)
var begun10 = regexp.MustCompile(`^&#[0-9]*$`)
var begun16 = regexp.MustCompile(`^&#x[0-9a-fA-F]*$`)

// number: of a reference; above all characters where it is.
func number(ref, ahead string, base int) rune {
	s := strings.TrimLeft(strings.TrimSuffix(strings.TrimPrefix(ref, ahead), ";"), "0")
	n, err := strconv.ParseInt("0"+s, base, 32)
	if err != nil || n > utf8.MaxRune {
		return utf8.MaxRune + 1
	}
	return rune(n)
}

func (p *reader) reference() string {
	for _, n := range [][2]string{{"&amp;", "&"}, {"&lt;", "<"}, {"&gt;", ">"}, {"&quot;", "\""}, {"&apos;", "'"}} {
		if p.could(n[0]) {
			p.word(n[0])
			return n[1]
		}
	}
	r := rune(-1)
	s := whole10.FindString(p.left())
	if s != "" {
		r = number(s, "&#", 10)
	} else if s = whole16.FindString(p.left()); s != "" {
		r = number(s, "&#x", 16)
	}
	if chars.Is(api.Allowed, r) {
		p.at += len(s)
		return string(r)
	}
	if begun10.MatchString(p.left()) && number(p.left(), "&#", 10) <= utf8.MaxRune || begun16.MatchString(p.left()) && number(p.left(), "&#x", 16) <= utf8.MaxRune {
		panic(begun)
	}
	panic(wrong)
}

// look: the bytes' fate, and the events of the tags that are whole.
func look(h heads, all string) (f fate, events []api.Event) {
	p := &reader{heads: h, all: all}
	defer func() {
		events = p.events
		if x, ok := recover().(fate); ok {
			f = x
		}
	}()
	p.document()
	return whole, nil
}

// answers: what Next answers of bytes, all of it, in turn: P7.2 and P7.3.
type answers struct {
	events []api.Event
	how    api.How
	fault  api.Fault
}

func answersOf(h heads, all string, ended bool, limit int) answers {
	f, events := look(h, all)
	out := answers{events: events, how: api.Wait}
	switch {
	case f == wrong:
		n := 0
		for g := begun; g != wrong; n++ {
			g, _ = look(h, all[:n+1])
		}
		out = bad(h, all, n-1)
	case ended && f == whole:
		out.how = api.Done
	case ended:
		out = bad(h, all, len(all))
	}
	for _, e := range out.events {
		if e.Kind == api.Open && e.Depth > limit {
			at, _ := runes.At([]byte(all), e.To-1)
			keep := slices.IndexFunc(out.events, func(x api.Event) bool { return x.To == e.To })
			return answers{out.events[:keep], api.Bad, api.Fault{At: at, Why: api.ErrDepth}}
		}
	}
	return out
}

func bad(h heads, all string, n int) answers {
	at, _ := runes.At([]byte(all), n)
	_, events := look(h, all[:n])
	return answers{events, api.Bad, api.Fault{At: at, Why: api.ErrDocument}}
}

// needAnswers: what the Nest has answered, and answers now, is what the document's words ask.
func needAnswers(t *testing.T, n *nest.Nest, told []api.Event, want answers, all string, limit int) []api.Event {
	t.Helper()
	list, how, f := drain(t, n)
	told = append(told, list...)
	if how != want.how || f != nil && *f != want.fault || !sameEvents(told, want.events) {
		t.Fatalf("P7.2 to P7.4: %q, limit %d: %s, %d %v; want %s, %d %v", all, limit, show(told), how, f, show(want.events), want.how, want.fault)
	}
	open := 0
	for _, e := range told {
		open += map[api.EventKind]int{api.Open: 1, api.Close: -1}[e.Kind]
	}
	if n.Depth() != open {
		t.Fatalf("P7.5: %q, limit %d: depth %d, want %d", all, limit, n.Depth(), open)
	}
	return told
}

func sameEvents(a, b []api.Event) bool {
	return slices.EqualFunc(a, b, func(x, y api.Event) bool {
		same := slices.Equal(x.Attrs, y.Attrs)
		x.Attrs, y.Attrs = nil, nil
		return same && reflect.DeepEqual(x, y)
	})
}

// atOnce: all bytes in one piece, asked, then the end told; and Events.
func atOnce(t *testing.T, h heads, all string, limit int) {
	t.Helper()
	n, _ := nest.New(limit)
	n.Push([]byte(all))
	told := needAnswers(t, n, nil, answersOf(h, all, false, limit), all, limit)
	n.End()
	want := answersOf(h, all, true, limit)
	needAnswers(t, n, told, want, all, limit)
	list, err := nest.Events([]byte(all), limit)
	var f *api.Fault
	if !sameEvents(list, want.events) || (err != nil) != (want.how == api.Bad) || err != nil && (!errors.As(err, &f) || *f != want.fault || !errors.Is(err, want.fault.Why)) {
		t.Fatalf("P7.6: Events(%q, %d): %s, %v", all, limit, show(list), err)
	}
}

// oneByOne: each byte is a piece of its own, and all that is there is asked for behind it.
func oneByOne(t *testing.T, h heads, all string, limit int) {
	t.Helper()
	n, _ := nest.New(limit)
	told := needAnswers(t, n, nil, answersOf(h, "", false, limit), "", limit)
	for i := range len(all) {
		n.Push([]byte{all[i]})
		told = needAnswers(t, n, told, answersOf(h, all[:i+1], false, limit), all[:i+1], limit)
	}
	n.End()
	needAnswers(t, n, told, answersOf(h, all, true, limit), all, limit)
}

func documents() []string {
	return []string{
		"<a>x</a>",
		"<a>x<b/>y</a>",
		" <!-- c -->\r\n<a b='1' c = \"2\"/>\r<!---->\t",
		"<a>\r\nx\r<b>y\n\r</b><![CDATA[<&]]]>]]&#x26;]]&gt;</a\r>\r",
		"<é-1.·\r\n_é='&amp;&lt;&gt;&quot;&apos;&#00000233;&#x10FFFF;\t\r\n\r\n\n\"'\nb=\"'\"></é-1.·>",
		"<a><!--é--><![CDATA[]]><![CDATA[]]]]><b  /></a>",
		"<a>\U0001F600]<!---->]><a><a></a>]]<![CDATA[>]]></a>\uFFFD\uD7FF</a>\n<!-- - -->",
		"<_ c = '' b= '' a ='' ab='' />",
		"<a><b><c>1</c>2<c/>3</b>4<b></b>5</a>",
		"<ab><a></a><abc/>-<ab></ab></ab>",
	}
}

func limits() []int { return []int{0, 1, 2, 3, 4, api.MaxDepth} }

// pieces: all at which something changes, and some that many documents hold.
func pieces() []string {
	return []string{"<", ">", "/", "!", "-", "[", "]", "=", "'", "\"", "&", ";", "a", "b", "x", "#", " ", "\r", "\n", "\xC3", "\xA9", "\xFF", "\x01", "\xEF", "\xBF", "\xBE", "amp;", "#x", "41;", "<!--", "-->", "<![CDATA[", "]]>", "<a", "</a", " a='", "' >", "<a>", "<b/>", "</a>", "</b>", "<!---->"}
}

// begins: what brings a document to each of the places where it may be.
func begins() []string {
	return []string{"", " ", "<a", "<a>", "<a>x", "<a><b>", "<a><b>x", "<a><b/>", "<a>x<b/>y", "<a/>", "<a></a> ", "<a b='' a='' b", "<a></", "<a></a", "<a><a></a>", "<ab></a", "<a>]]", "<a>&", "<a/><", "<a/><!", "<a/><!--", "<a><!-", "<a><![CDATA[x]", "<a>\xEF\xBF"}
}

func TestAllShortTexts(t *testing.T) {
	t.Parallel()
	h := headsOf()
	list := pieces()
	for _, begin := range begins() {
		for _, one := range list {
			for _, two := range list {
				all := begin + one + two
				atOnce(t, h, all, 1)
				atOnce(t, h, all, 3)
			}
			oneByOne(t, h, begin+one+"<b></b></a>", 2)
		}
	}
}

// TestDocuments: each document with each limit, byte by byte, and in two pieces that are cut at each byte.
func TestDocuments(t *testing.T) {
	t.Parallel()
	h := headsOf()
	for _, d := range documents() {
		for _, limit := range limits() {
			oneByOne(t, h, d, limit)
			want := answersOf(h, d, true, limit)
			if want.how == api.Bad && want.fault.Why != api.ErrDepth {
				t.Fatalf("%q is no document: %v", d, want.fault)
			}
			for cut := range len(d) + 1 {
				n, _ := nest.New(limit)
				n.Push([]byte(d[:cut]))
				told := needAnswers(t, n, nil, answersOf(h, d[:cut], false, limit), d[:cut], limit)
				n.Push([]byte(d[cut:]))
				n.End()
				needAnswers(t, n, told, want, d, limit)
			}
		}
	}
}

// TestOtherBytes: each other byte behind each beginning, and the end behind each.
func TestOtherBytes(t *testing.T) {
	t.Parallel()
	h := headsOf()
	for _, d := range documents() {
		for n := range len(d) + 1 {
			atOnce(t, h, d[:n], api.MaxDepth)
			for x := range 256 {
				otherByte(t, h, d[:n], string([]byte{byte(x)}), 1+x%3)
			}
		}
	}
}

// otherByte: once what came ahead was asked for.
func otherByte(t *testing.T, h heads, begin, other string, limit int) {
	t.Helper()
	n, _ := nest.New(limit)
	n.Push([]byte(begin))
	told, _, _ := drain(t, n)
	n.Push([]byte(other))
	needAnswers(t, n, told, answersOf(h, begin+other, false, limit), begin+other, limit)
}

// TestNextStep: one event a call, a piece pushed between any two of them.
func TestNextStep(t *testing.T) {
	t.Parallel()
	for _, d := range documents() {
		want, err := nest.Events([]byte(d), 9)
		if err != nil {
			t.Fatal(err)
		}
		n := needMade(t, 9)
		var got []api.Event
		for i := range len(d) {
			needPushed(t, n, d[i:i+1])
			if i%3 == 0 {
				if e, how, _ := n.Next(); how == api.Have {
					got = append(got, e)
				}
			}
		}
		needEnded(t, n)
		list, how, _ := drain(t, n)
		if got = append(got, list...); how != api.Done || !sameEvents(got, want) {
			t.Errorf("P7.7: %q: %d, %s, want %s", d, how, show(got), show(want))
		}
	}
}
