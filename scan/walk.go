package scan

import (
	"strings"
	"unicode/utf8"

	"gimlet/api"
	"gimlet/chars"
	"gimlet/feed"
	"gimlet/refs"
)

// walk is how far a rest was gone through, for one place where the document is. It goes from state to state, and stops where bytes lack: more bytes go on from the state that it stopped in.
type walk struct {
	in    api.Inside
	name  string // Within: of the element that is open
	state int
	how   api.How   // Wait, till more is known; Have: a whole tag
	bad   api.Place // of Bad

	feed *feed.Feed // makes characters of the bytes
	fed  int        // how many bytes it has had, or needn't have
	at   int        // how many bytes were gone through; what lies between at and fed, the feed waits to know more of
	from int        // where the character begins that was read last, or the reference

	text     []byte // the characters ahead of the tag
	textFrom int    // of a text that isn't empty: where its first byte is
	count    int    // how many ] or - stand right ahead; in a cdata's opening how much of it does
	ref      []byte // the reference that isn't whole yet, without noughts that change nothing

	tagFrom int // where the tag begins; the comment, the cdata, too
	kind    api.TokenKind
	tag     []byte // its name
	attrs   []api.Attr
	seen    map[string]struct{} // their names
	attr    []byte              // the name of the attribute that isn't whole yet
	value   []byte              // and its value
	quote   rune                // around it
}

// The states, by the functions that go on from them.
const (
	inContent = iota
	inTextRef

	atSign
	atMark

	atDash
	inComment
	atCommentEnd

	inOpening
	inData

	inName
	inGap
	behindValue
	atSlash

	inAttr
	atEquals
	atQuote

	inValue
	inValueRef

	inEndName
	inEndGap
)

const (
	blanks    = " \t\n\r"
	cdataWord = "CDATA["    // behind the <![ of a cdata
	none      = api.Classes // has no characters
)

func newWalk(in api.Inside, name string) walk {
	return walk{in: in, name: name, how: api.Wait, feed: feed.New()}
}

// goOn walks from the state on, till a tag is whole, a byte is bad or bytes lack.
func (s *Scanner) goOn() {
	on := true
	for on {
		switch s.state {
		case inContent, inTextRef:
			on = s.content()
		case atSign, atMark:
			on = s.sign()
		case atDash, inComment, atCommentEnd:
			on = s.comment()
		case inOpening, inData:
			on = s.cdata()
		case inName, inGap, behindValue, atSlash:
			on = s.startTag()
		case inAttr, atEquals, atQuote:
			on = s.attribute()
		case inValue, inValueRef:
			on = s.quoted()
		default:
			on = s.endTag()
		}
	}
}

// content: what stands between tags. Like those below it answers true where a state of another function goes on.
func (s *Scanner) content() bool {
	var r rune
	var ok bool
	if s.state == inTextRef {
		goto reference
	}
content:
	s.state = inContent
	r, ok = s.next(s.contentClass(), "<")
	switch {
	case !ok:
		return false
	case r == '<':
		s.tagFrom, s.count = s.from, 0
		return s.turn(atSign)
	case s.in != api.Within:
		goto content
	case r == '&':
		s.ref = append(s.ref[:0], '&')
		goto reference
	case r == '>' && s.count >= len("]]"):
		return s.fail(s.from)
	}
	s.add(r, s.from)
	s.tally(r, ']')
	goto content
reference:
	s.state = inTextRef
	if r, ok = s.refer(); !ok {
		return false
	}
	s.add(r, s.from)
	s.count = 0
	goto content
}

// contentClass: what may stand between tags.
func (s *Scanner) contentClass() api.Class {
	if s.in == api.Within {
		return api.Allowed
	}
	return api.Blank
}

// sign: what a < begins.
func (s *Scanner) sign() bool {
	var r rune
	var ok bool
	if s.state == atMark {
		goto mark
	}
	r, ok = s.next(s.signs())
	switch {
	case !ok:
		return false
	case r == '!':
		goto mark
	case r == '/':
		return s.turn(inEndName)
	}
	s.tag = utf8.AppendRune(s.tag, r)
	return s.turn(inName)
mark:
	s.state = atMark
	if r, ok = s.next(none, s.marks()); !ok {
		return false
	}
	if r == '[' {
		return s.turn(inOpening)
	}
	return s.turn(atDash)
}

// signs: what may stand behind a <.
func (s *Scanner) signs() (api.Class, string) {
	switch s.in {
	case api.Before:
		return api.NameStart, "!"
	case api.Within:
		return api.NameStart, "!/"
	}
	return none, "!"
}

// marks: what may stand behind a <!.
func (s *Scanner) marks() string {
	if s.in == api.Within {
		return "-["
	}
	return "-"
}

// comment: one, behind its <!-.
func (s *Scanner) comment() bool {
	var r rune
	var ok bool
	switch s.state {
	case inComment:
		goto comment
	case atCommentEnd:
		goto end
	}
	if _, ok = s.next(none, "-"); !ok {
		return false
	}
comment:
	s.state = inComment
	if r, ok = s.next(api.Allowed, ""); !ok {
		return false
	}
	s.tally(r, '-')
	if s.count < len("--") {
		goto comment
	}
end:
	s.state = atCommentEnd
	if _, ok = s.next(none, ">"); !ok {
		return false
	}
	s.count = 0
	return s.turn(inContent)
}

// cdata: one, behind its <![.
func (s *Scanner) cdata() bool {
	var r rune
	var ok bool
	if s.state == inData {
		goto data
	}
opening:
	if _, ok = s.next(none, cdataWord[s.count:s.count+1]); !ok {
		return false
	}
	s.count++
	if s.count < len(cdataWord) {
		goto opening
	}
	s.count = 0
data:
	s.state = inData
	if r, ok = s.next(api.Allowed, ""); !ok {
		return false
	}
	if r == '>' && s.count >= len("]]") {
		s.text = s.text[:len(s.text)-len("]]")]
		s.count = 0
		return s.turn(inContent)
	}
	s.add(r, s.tagFrom)
	s.tally(r, ']')
	goto data
}

// startTag: a start tag or an empty tag, but for its attributes.
func (s *Scanner) startTag() bool {
	var r rune
	var ok bool
	switch s.state {
	case inGap:
		goto gap
	case behindValue:
		goto behind
	case atSlash:
		goto slash
	}
name:
	r, ok = s.next(api.NameRest, blanks+"/>")
	switch {
	case !ok:
		return false
	case r == '/':
		goto slash
	case r == '>':
		return s.whole(api.TokenOpen)
	case !chars.Is(api.Blank, r):
		s.tag = utf8.AppendRune(s.tag, r)
		goto name
	}
gap:
	s.state = inGap
	r, ok = s.next(api.NameStart, blanks+"/>")
	switch {
	case !ok:
		return false
	case r == '/':
		goto slash
	case r == '>':
		return s.whole(api.TokenOpen)
	case chars.Is(api.Blank, r):
		goto gap
	}
	s.attr = utf8.AppendRune(s.attr[:0], r)
	return s.turn(inAttr)
behind:
	s.state = behindValue
	r, ok = s.next(api.Blank, "/>")
	switch {
	case !ok:
		return false
	case r == '>':
		return s.whole(api.TokenOpen)
	case r != '/':
		goto gap
	}
slash:
	s.state = atSlash
	if _, ok = s.next(none, ">"); !ok {
		return false
	}
	return s.whole(api.TokenEmpty)
}

// attribute: one, behind the first character of its name and up to its value.
func (s *Scanner) attribute() bool {
	var r rune
	var ok bool
	switch s.state {
	case atEquals:
		goto equals
	case atQuote:
		goto quote
	}
name:
	if s.isTwice() {
		return s.fail(s.at)
	}
	r, ok = s.next(api.NameRest, blanks+"=")
	switch {
	case !ok:
		return false
	case r == '=':
		goto quote
	case !chars.Is(api.Blank, r):
		s.attr = utf8.AppendRune(s.attr, r)
		goto name
	}
equals:
	s.state = atEquals
	if r, ok = s.next(api.Blank, "="); !ok {
		return false
	}
	if r != '=' {
		goto equals
	}
quote:
	s.state = atQuote
	if r, ok = s.next(api.Blank, `"'`); !ok {
		return false
	}
	if chars.Is(api.Blank, r) {
		goto quote
	}
	s.quote, s.value = r, s.value[:0]
	return s.turn(inValue)
}

// quoted: an attribute's value, up to the quote behind it.
func (s *Scanner) quoted() bool {
	var r rune
	var ok bool
	if s.state == inValueRef {
		goto reference
	}
value:
	s.state = inValue
	r, ok = s.next(api.Allowed, "")
	switch {
	case !ok:
		return false
	case r == '<':
		return s.fail(s.from)
	case r == s.quote:
		return s.addAttr()
	case r == '&':
		s.ref = append(s.ref[:0], '&')
		goto reference
	case chars.Is(api.Blank, r):
		r = ' '
	}
	s.value = utf8.AppendRune(s.value, r)
	goto value
reference:
	s.state = inValueRef
	if r, ok = s.refer(); !ok {
		return false
	}
	s.value = utf8.AppendRune(s.value, r)
	goto value
}

// isTwice: is the attribute's name whole, and has the tag one of that name already?
func (s *Scanner) isTwice() bool {
	if s.at == len(s.rest) || strings.IndexByte(blanks+"=", s.rest[s.at]) < 0 {
		return false
	}
	_, twice := s.seen[string(s.attr)]
	return twice
}

// addAttr: the attribute is whole.
func (s *Scanner) addAttr() bool {
	a := api.Attr{Name: string(s.attr), Value: string(s.value)}
	if s.seen == nil {
		s.seen = map[string]struct{}{}
	}
	s.seen[a.Name] = struct{}{}
	s.attrs = append(s.attrs, a)
	return s.turn(behindValue)
}

// endTag: an end tag behind its </. The name is gone through byte by byte, since it may be one that no document has.
func (s *Scanner) endTag() bool {
	var r rune
	var ok bool
	done := s.at - s.tagFrom - len("</")
	if s.state == inEndGap {
		goto gap
	}
name:
	switch {
	case done == len(s.name):
		goto gap
	case s.at == len(s.rest):
		return false
	case s.rest[s.at] != s.name[done]:
		return s.fail(s.at)
	}
	s.skip()
	done++
	goto name
gap:
	s.state = inEndGap
	if r, ok = s.next(api.Blank, ">"); !ok {
		return false
	}
	if r != '>' {
		goto gap
	}
	s.tag = []byte(s.name)
	return s.whole(api.TokenClose)
}

// turn: a state of another kind goes on.
func (s *Scanner) turn(state int) bool {
	s.state = state
	return true
}

// whole: the tag is.
func (s *Scanner) whole(kind api.TokenKind) bool {
	s.kind = kind
	s.how = api.Have
	return false
}

// fail: that byte is bad.
func (s *Scanner) fail(n int) bool {
	s.bad = s.placeOf(n)
	s.how = api.Bad
	return false
}

// add: a character of the text, that begins at that byte or is in what begins there.
func (s *Scanner) add(r rune, from int) {
	if len(s.text) == 0 {
		s.textFrom = from
	}
	s.text = utf8.AppendRune(s.text, r)
}

// tally counts how many of them stand right behind one another.
func (s *Scanner) tally(r, of rune) {
	s.count++
	if r != of {
		s.count = 0
	}
}

// next goes through the next character, if it is of the class or one of the signs. Else false, and the byte is bad with which no such character goes on, if it is there.
func (s *Scanner) next(class api.Class, signs string) (rune, bool) {
	c, how := s.look()
	if how == api.Have && (chars.Is(class, c.Rune) || strings.ContainsRune(signs, c.Rune)) {
		s.feed.Next()
		s.from = s.at
		s.at += c.Width
		return c.Rune, true
	}
	lie := s.rest[s.at:]
	if string(lie) == "\r" && strings.Contains(signs, "\r") {
		return 0, false
	}
	good := 0
	for good < len(lie) && chars.Begins(class, lie[:good+1]) {
		good++
	}
	if good < len(lie) {
		s.fail(s.at + good)
	}
	return 0, false
}

// look: the next character. The feed is given no more bytes than it needs to tell it, so that behind a character that was gone through it holds none which skip would pass by.
func (s *Scanner) look() (api.Char, api.How) {
	c, how := s.feed.Peek()
	for how == api.Wait && s.fed < len(s.rest) {
		s.feed.Push(s.rest[s.fed : s.fed+1])
		s.fed++
		c, how = s.feed.Peek()
	}
	return c, how
}

// skip goes through a byte that the feed hasn't had and needn't have.
func (s *Scanner) skip() {
	s.at++
	s.fed++
}

// refer goes on in a reference; its character, once it is whole. Each byte is read behind all of those ahead, so that only it can be bad.
func (s *Scanner) refer() (rune, bool) {
	for s.at < len(s.rest) {
		s.ref = append(s.ref, s.rest[s.at])
		r, _, how := refs.Read(s.ref)
		if how == api.Bad {
			return 0, s.fail(s.at)
		}
		s.skip()
		if how == api.Have {
			return r, true
		}
		s.dropNought()
	}
	return 0, false
}

// dropNought: of the noughts ahead of a number one is as good as a million, which would else be read again with each byte.
func (s *Scanner) dropNought() {
	if ref := string(s.ref); ref == "&#00" || ref == "&#x00" {
		s.ref = s.ref[:len(s.ref)-1]
	}
}
