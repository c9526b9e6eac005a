package canon_test

import (
	"errors"
	"fmt"
	"math"
	"reflect"
	"slices"
	"strings"
	"testing"
	"time"

	"gimlet/api"
	"gimlet/canon"
	"gimlet/nest"
	"gimlet/runes"
)

func open(name string, attrs ...api.Attr) api.Event {
	return api.Event{Kind: api.Open, Name: name, Attrs: attrs}
}

func text(s string) api.Event { return api.Event{Kind: api.Text, Text: s} }

func closed(name string) api.Event { return api.Event{Kind: api.Close, Name: name} }

// noKinds: kinds that are none.
func noKinds() []api.EventKind {
	return []api.EventKind{-1, 3, 4, 256, math.MinInt, math.MaxInt}
}

// needEvent: P8.1, at this event.
func needEvent(t *testing.T, e api.Event, want string) {
	t.Helper()
	if got := canon.Event(e); got != want {
		t.Errorf("P8.1: Event(%+v) = %q, want %q", e, got, want)
	}
}

func TestEvent(t *testing.T) {
	// The chapter's examples.
	needEvent(t, open("a", api.Attr{Name: "b", Value: ">"}, api.Attr{Name: "a", Value: "\xff"}), "<a b=\">\" a=\"\xff\">")
	needEvent(t, api.Event{Kind: 3}, "")
	needEvent(t, closed(""), "</>")
	// Ordinary ones, and those of nothing.
	needEvent(t, open("a"), "<a>")
	needEvent(t, open("é-1", api.Attr{Name: "é", Value: "ü"}), "<é-1 é=\"ü\">")
	needEvent(t, closed("é"), "</é>")
	needEvent(t, text("x é"), "x é")
	needEvent(t, text(""), "")
	needEvent(t, open(""), "<>")
	needEvent(t, open("", api.Attr{}), "< =\"\">")
	needEvent(t, api.Event{}, "<>")
	// What is escaped in a text isn't all that is in a value, and the other way.
	needEvent(t, text("&<>\r\n\t\"'&amp;]]>"), "&amp;&lt;&gt;&#xD;\n\t\"'&amp;amp;]]&gt;")
	needEvent(t, open("a", api.Attr{Name: "b", Value: "&<>\r\n\t\"'&amp;]]>"}), "<a b=\"&amp;&lt;>&#xD;&#xA;&#x9;&quot;'&amp;amp;]]>\">")
}

func TestOtherKinds(t *testing.T) {
	for _, kind := range noKinds() {
		needEvent(t, api.Event{Kind: kind}, "")
		needEvent(t, api.Event{Kind: kind, Number: 1, Depth: 1, Name: "a", Attrs: []api.Attr{{Name: "b", Value: "c"}}, Text: "x", From: 1, To: 2}, "")
	}
}

// TestOtherFields: of each kind just the fields that P8.1 names count.
func TestOtherFields(t *testing.T) {
	attrs := []api.Attr{{Name: "b", Value: "c"}}
	for _, n := range []int{-1, 0, 7, math.MaxInt} {
		needEvent(t, api.Event{Kind: api.Open, Number: n, Depth: n, Name: "a", Attrs: attrs, Text: "x", From: n, To: n}, "<a b=\"c\">")
		needEvent(t, api.Event{Kind: api.Text, Number: n, Depth: n, Name: "a", Attrs: attrs, Text: "x", From: n, To: n}, "x")
		needEvent(t, api.Event{Kind: api.Close, Number: n, Depth: n, Name: "a", Attrs: attrs, Text: "x", From: n, To: n}, "</a>")
	}
}

// TestAnyBytes: names stay as they are, whatever their bytes; of values and texts all but the characters that are escaped.
func TestAnyBytes(t *testing.T) {
	inText := map[byte]string{'&': "&amp;", '<': "&lt;", '>': "&gt;", 0x0D: "&#xD;"}
	inValue := map[byte]string{'&': "&amp;", '<': "&lt;", '"': "&quot;", 0x09: "&#x9;", 0x0A: "&#xA;", 0x0D: "&#xD;"}
	form := func(forms map[byte]string, x byte) string {
		if s, ok := forms[x]; ok {
			return s
		}
		return string([]byte{x})
	}
	for i := range 256 {
		x := byte(i)
		s := string([]byte{x, 0xE9, x})
		asText := form(inText, x) + "\xE9" + form(inText, x)
		asValue := form(inValue, x) + "\xE9" + form(inValue, x)
		needEvent(t, text(s), asText)
		needEvent(t, closed(s), "</"+s+">")
		needEvent(t, open(s), "<"+s+">")
		needEvent(t, open(s, api.Attr{Name: s, Value: s}), "<"+s+" "+s+"=\""+asValue+"\">")
	}
	for _, s := range []string{"\xC3", "\xED\xA0\x80", "\xF4\x90\x80\x80", "\x00", "\uFFFD\xFF", "\uFFFE", "\xC0\xBC", " a=\"/'"} {
		needEvent(t, text(s), s)
		needEvent(t, closed(s), "</"+s+">")
		needEvent(t, open(s, api.Attr{Name: s, Value: "\xE2\x82"}), "<"+s+" "+s+"=\"\xE2\x82\">")
	}
}

// orders: all of them.
func orders(list []api.Attr) [][]api.Attr {
	if len(list) == 0 {
		return [][]api.Attr{nil}
	}
	var all [][]api.Attr
	for i := range list {
		others := append(slices.Clone(list[:i]), list[i+1:]...)
		for _, o := range orders(others) {
			all = append(all, append(o, list[i]))
		}
	}
	return all
}

// TestAttrs: in the list's order, twice, none.
func TestAttrs(t *testing.T) {
	for _, order := range orders([]api.Attr{{Name: "a", Value: "1"}, {Name: "b", Value: "<"}, {Name: "é", Value: ""}, {Name: "a", Value: "2"}, {Name: "a", Value: "1"}}) {
		want := "<x"
		for _, a := range order {
			want += " " + a.Name + "=\"" + strings.ReplaceAll(a.Value, "<", "&lt;") + "\""
		}
		needEvent(t, open("x", order...), want+">")
	}
	needEvent(t, api.Event{Kind: api.Open, Name: "x", Attrs: []api.Attr{}}, "<x>")
	needEvent(t, api.Event{Kind: api.Open, Name: "x", Attrs: make([]api.Attr, 0, 9)}, "<x>")
}

func TestPrint(t *testing.T) {
	for _, r := range []struct {
		events []api.Event
		want   string
	}{
		{nil, ""}, {[]api.Event{}, ""},
		{[]api.Event{open("a")}, "<a>"},
		{[]api.Event{closed("a"), closed("a"), open("b")}, "</a></a><b>"},
		{[]api.Event{text("x"), text(""), text("&"), {Kind: 3, Text: "z"}, text("y")}, "x&amp;y"},
		{[]api.Event{{Kind: -1}, {Kind: 3}}, ""},
		{[]api.Event{open("a"), closed("b"), closed("b"), open("c"), text("x")}, "<a></b></b><c>x"},
		// Neither numbers nor places order them.
		{[]api.Event{{Kind: api.Open, Number: 9, From: 9, Name: "a"}, {Kind: api.Text, Number: 3, From: 5, Text: "x"}, {Kind: api.Text, Number: 1, Text: "y"}}, "<a>xy"},
	} {
		if got := canon.Print(r.events); got != r.want {
			t.Errorf("P8.2: Print(%+v) = %q, want %q", r.events, got, r.want)
		}
	}
}

// needForm: P8.3, where all is well.
func needForm(t *testing.T, d, want string) {
	t.Helper()
	if got, err := canon.Form([]byte(d)); got != want || err != nil {
		t.Errorf("P8.3: Form(%q) = %q, %v, want %q", d, got, err, want)
	}
}

func TestForm(t *testing.T) {
	for _, r := range [][2]string{
		// The chapter's examples.
		{"<a  y='2' x=\"1\"/>", "<a x=\"1\" y=\"2\"></a>"},
		{"<a>x<!-- y -->&#122;<![CDATA[<]]></a >", "<a>xz&lt;</a>"},
		{"<a x='&quot;&#9;\t'/>", "<a x=\"&quot;&#x9; \"></a>"},
		// Nothing of what stands around the root; both tags of an empty element.
		{" <!--c-->\r\n<a/>\n<!-- -->\t", "<a></a>"},
		{"<a ><b\n/></a\t>", "<a><b></b></a>"},
		{"<a><![CDATA[]]><!----></a>", "<a></a>"},
		// Line ends: as they are written, and as references.
		{"<a>\r\n\r\r&#13;&#10;&#9;\t</a>", "<a>\n\n\n&#xD;\n\t\t</a>"},
		{"<a b='\r\n\r\r&#13;&#10;&#9;\t\n'/>", "<a b=\"   &#xD;&#xA;&#x9;  \"></a>"},
		{"<a><![CDATA[\r\n\r&#13;]]></a>", "<a>\n\n&amp;#13;</a>"},
		// Quotes of either kind, what needs no escape, and what does.
		{"<a b='\"' c=\"'\" d='&apos;' e=\"&quot;\"/>", "<a b=\"&quot;\" c=\"'\" d=\"'\" e=\"&quot;\"></a>"},
		{"<a b='>&gt;&#60;&amp;'>>&gt;\"'&quot;&apos;&#x3C;&amp;</a>", "<a b=\">>&lt;&amp;\">&gt;&gt;\"'\"'&lt;&amp;</a>"},
		{"<a>]]&gt;<![CDATA[]]]]>&#62;]<!---->]&#62;</a>", "<a>]]&gt;]]&gt;]]&gt;</a>"},
		// Names by their characters.
		{"<a \U00010000='5' \uFFFD='4' é='3' a.='2' a-='1' a='0' _='' Z=''/>", "<a Z=\"\" _=\"\" a=\"0\" a-=\"1\" a.=\"2\" é=\"3\" \uFFFD=\"4\" \U00010000=\"5\"></a>"},
		{"<é>&#xE9;é\uFFFD&#xFFFD;&#x10FFFF;\U0010FFFF</é>", "<é>éé\uFFFD\uFFFD\U0010FFFF\U0010FFFF</é>"},
		// Elements in one another, of one name too.
		{"<a>1<a>2<b>3</b>4<b/>5</a>6<a/></a>", "<a>1<a>2<b>3</b>4<b></b>5</a>6<a></a></a>"},
	} {
		needForm(t, r[0], r[1])
		needForm(t, r[1], r[1])
	}
}

// needFault: P8.3, beside a fault at that byte.
func needFault(t *testing.T, d string, why api.Errno, at int) {
	t.Helper()
	got, err := canon.Form([]byte(d))
	var f *api.Fault
	if got != "" || !errors.As(err, &f) || !errors.Is(err, why) {
		t.Errorf("P8.3: Form(%q) = %q, %v, want %d", short(d), short(got), err, why)
		return
	}
	if want, _ := runes.At([]byte(d), at); f.Why != why || f.At != want {
		t.Errorf("P8.3: Form(%q): %d at %v, want %d at %v", short(d), f.Why, f.At, why, want)
	}
}

// short: what can be told of a text that may be very long.
func short(s string) string {
	if len(s) < 80 {
		return s
	}
	return s[:30] + " .. " + s[len(s)-30:]
}

func TestFaults(t *testing.T) {
	for d, at := range map[string]int{
		"<a>": 3, "": 0, "x": 0, " ": 1, "<a></b>": 5, "<a/>x": 4, "<a/><": 5, "<a/><b/>": 5, "<a><b/></a": 10,
		"<a b='' b": 9, "<a b='' b=": 9, "<a>&#xD800;": 10, "<a>\xC3\x28": 4, "<a>\n]]>": 6, "<é>\r\n<b></c>": 11, "\xEF\xBB\xBF<a/>": 0,
	} {
		needFault(t, d, api.ErrDocument, at)
	}
	if got, err := canon.Form(nil); got != "" || !errors.Is(err, api.ErrDocument) {
		t.Errorf("P8.3: Form(nil) = %q, %v", got, err)
	}
}

// nested: so many elements in one another, around a text.
func nested(depth int) string {
	return strings.Repeat("<a>", depth) + "x" + strings.Repeat("</a>", depth)
}

func TestDepths(t *testing.T) {
	for _, depth := range []int{1, 2, 1000, api.MaxDepth - 1, api.MaxDepth} {
		d := nested(depth)
		if got, err := canon.Form([]byte(d)); got != d || err != nil {
			t.Errorf("P8.3: Form at depth %d: %q, %v", depth, short(got), err)
		}
	}
	for _, depth := range []int{api.MaxDepth + 1, api.MaxDepth + 2, 2 * api.MaxDepth} {
		needFault(t, nested(depth), api.ErrDepth, 3*api.MaxDepth+2)
	}
	ahead := strings.Repeat("<a>", api.MaxDepth)
	needFault(t, ahead+"x<b c='' />", api.ErrDepth, len(ahead)+len("x<b c='' /"))
	needFault(t, ahead+"<b>\x00", api.ErrDepth, len(ahead)+2)
	needFault(t, ahead+"<b", api.ErrDocument, len(ahead)+2)
	needFault(t, ahead+"</b>", api.ErrDocument, len(ahead)+2)
	needFault(t, ahead+"x\x00<b>", api.ErrDocument, len(ahead)+1)
}

// needPieces: P8.4, at these events.
func needPieces(t *testing.T, events []api.Event, want [][2]int) {
	t.Helper()
	if got := canon.Pieces(events); !slices.Equal(got, want) {
		t.Errorf("P8.4: Pieces of %q: %v, want %v", short(canon.Print(events)), got, want)
	}
}

func TestPieces(t *testing.T) {
	// The chapter's examples.
	events, err := nest.Events([]byte("<a><b/>x</a>"), 9)
	if err != nil {
		t.Fatal(err)
	}
	needPieces(t, events, [][2]int{{0, 15}, {3, 10}, {10, 11}})
	needPieces(t, []api.Event{open("a"), closed("a"), closed("b"), open("c"), text("x")}, [][2]int{{0, 7}, {11, 15}, {14, 15}})
	needPieces(t, nil, nil)
	needPieces(t, []api.Event{}, nil)
	// No piece at all, though something is printed.
	needPieces(t, []api.Event{closed("a"), closed("b"), {Kind: 3}}, nil)
	// Opens that are never closed go to the end of all, behind Closes of others too.
	needPieces(t, []api.Event{open("a")}, [][2]int{{0, 3}})
	needPieces(t, []api.Event{open("a"), open("b"), closed("b"), open("c"), text("x")}, [][2]int{{0, 14}, {3, 10}, {10, 14}, {13, 14}})
	needPieces(t, []api.Event{closed("z"), open("a"), text("x")}, [][2]int{{4, 8}, {7, 8}})
	// Names don't count, nor numbers and depths.
	needPieces(t, []api.Event{open("a"), open("b"), closed("a"), closed("b")}, [][2]int{{0, 14}, {3, 10}})
	needPieces(t, []api.Event{{Kind: api.Open, Number: 5, Depth: 7, Name: "a"}, {Kind: api.Open, Number: -1, Name: "b"}, {Kind: api.Close, Number: 5, Depth: 7, Name: "a"}}, [][2]int{{0, 10}, {3, 10}})
	// A Close too many takes no Open that comes later.
	needPieces(t, []api.Event{closed(""), closed(""), open("a"), closed("a"), closed("a"), open("b"), closed("b")}, [][2]int{{6, 13}, {17, 24}})
	// Texts of nothing have pieces; other kinds have none and part nothing.
	needPieces(t, []api.Event{text(""), {Kind: -1, Text: "x"}, text(""), text("<"), {Kind: 3, Name: "a"}, open(""), {Kind: 3}, closed("")}, [][2]int{{0, 0}, {0, 0}, {0, 4}, {4, 9}})
	// Bytes are counted as they are printed.
	needPieces(t, []api.Event{open("é", api.Attr{Name: "b", Value: "\"\xff"}), text("é&\xff"), closed("é")}, [][2]int{{0, 29}, {16, 24}})
}

// allDocuments: enough of them that all calls have something to do.
func allDocuments() []string {
	return []string{
		"<a>x</a>",
		"<a>x<b/>y</a>",
		" <!-- c -->\r\n<a b='1' c = \"2\"/>\r<!---->\t",
		"<a>\r\nx\r<b>y\n\r</b><![CDATA[<&]]]>]]&#x26;]]&gt;</a\r>\r",
		"<é-1.·\r\n_é='&amp;&lt;&gt;&quot;&apos;&#00000233;&#x10FFFF;\t\r\n\r\n\n\"'\nb=\"'\"></é-1.·>",
		"<a><!--é--><![CDATA[]]><![CDATA[]]]]><b  /></a>",
		"<a>\U0001F600]<!---->]><a><a></a>]]<![CDATA[>]]></a>\uFFFD\uD7FF</a>\n<!-- - -->",
		"<_ c = '' b= '' a ='' ab='' />",
		"<a><b><c>1</c>2<c/>3</b>4<b></b>5</a>",
		"<ab z='&#13;&#10;' y='\"'><a x='2' w=\"1\"></a><abc/>-&#13;<ab>&gt;</ab></ab>",
	}
}

// TestMemory: P8.5 and rule 5: neither bytes nor events are changed, with the room behind them; what is answered is nobody else's.
func TestMemory(t *testing.T) {
	for _, d := range allDocuments() {
		room := []byte(d + "<a/>&room")
		form, err := canon.Form(room[:len(d)])
		if err != nil || string(room) != d+"<a/>&room" {
			t.Fatalf("P8.5: %q: %v, and the bytes are %q", d, err, room)
		}
		kept := strings.Clone(form)
		clear(room)
		if form != kept {
			t.Errorf("P8.5: Form of %q is changed with its bytes: %q", d, form)
		}
		needNothingChanged(t, d, kept)
	}
}

func needNothingChanged(t *testing.T, d, form string) {
	t.Helper()
	events := roomy(t, d)
	before := deepCopy(events)
	printed := canon.Print(events)
	list := canon.Pieces(events)
	for _, e := range events {
		canon.Event(e)
	}
	if printed != form || !reflect.DeepEqual(events[:cap(events)], before) {
		t.Fatalf("P8.5: %q: events are changed: %+v", d, events[:cap(events)])
	}
	again := canon.Pieces(events)
	want := slices.Clone(again)
	overwrite(list)
	if !slices.Equal(again, want) || !slices.Equal(canon.Pieces(events), want) {
		t.Errorf("P8.4: %q: what Pieces answered is kept", d)
	}
	for i := range events {
		clear(events[i].Attrs)
		events[i] = api.Event{Kind: 3}
	}
	if printed != form || !slices.Equal(again, want) || len(canon.Pieces(events)) > 0 || canon.Print(events) != "" {
		t.Errorf("P8.5: %q: events are kept", d)
	}
}

// roomy: a document's events with spare room behind each list, which holds something.
func roomy(t *testing.T, d string) []api.Event {
	t.Helper()
	list, err := nest.Events([]byte(d), 99)
	if err != nil {
		t.Fatal(err)
	}
	for i := range list {
		n := len(list[i].Attrs)
		list[i].Attrs = append(list[i].Attrs, api.Attr{Name: "room", Value: "room"})[:n]
	}
	n := len(list)
	return append(list, open("room"), text("room"))[:n]
}

// deepCopy: of the events and of their spare room.
func deepCopy(events []api.Event) []api.Event {
	list := slices.Clone(events[:cap(events)])
	for i := range list {
		list[i].Attrs = slices.Clone(list[i].Attrs)
	}
	return list
}

// overwrite: the list, its spare room too.
func overwrite(list [][2]int) {
	all := list[:cap(list)]
	for i := range all {
		all[i] = [2]int{-9, -9}
	}
}

// TestNothingIsKept: P8.5: what one call was given is nothing to the next.
func TestNothingIsKept(t *testing.T) {
	for range 3 {
		needPieces(t, []api.Event{open("a"), text("x")}, [][2]int{{0, 4}, {3, 4}})
		needPieces(t, []api.Event{closed("a")}, nil)
		needPieces(t, []api.Event{text("y"), closed("a"), open("b")}, [][2]int{{0, 1}, {5, 8}})
		needEvent(t, open("a", api.Attr{Name: "b"}), "<a b=\"\">")
		needEvent(t, open("a"), "<a>")
		needFault(t, "<a>", api.ErrDocument, 3)
		needForm(t, "<b/>", "<b></b>")
	}
	// A fault that was answered is the caller's.
	_, err := canon.Form([]byte("<a>"))
	var f *api.Fault
	if errors.As(err, &f) {
		*f = api.Fault{}
	}
	needFault(t, "<a>", api.ErrDocument, 3)
}

// TestLong: what grows is gone through once.
func TestLong(t *testing.T) {
	const size = 200000
	var attrs []api.Attr
	var tag strings.Builder
	for i := range size {
		a := api.Attr{Name: fmt.Sprintf("a%06d", i), Value: "\""}
		attrs = append(attrs, a)
		tag.WriteString(" " + a.Name + "=\"&quot;\"")
	}
	begin := time.Now()
	if got := canon.Event(open("x", attrs...)); got != "<x"+tag.String()+">" {
		t.Errorf("P8.1: many attributes: %q", short(got))
	}
	needForm(t, "<a>"+strings.Repeat("<b/>", size)+"</a>", "<a>"+strings.Repeat("<b></b>", size)+"</a>")
	needForm(t, "<a>"+strings.Repeat("&#13;", size)+"</a>", "<a>"+strings.Repeat("&#xD;", size)+"</a>")
	for what, events := range map[string][]api.Event{
		"opens": slices.Repeat([]api.Event{open("a")}, size), "texts": slices.Repeat([]api.Event{text("x")}, size),
		"closes": slices.Repeat([]api.Event{closed("a")}, size), "both": slices.Concat(slices.Repeat([]api.Event{open("a")}, size), slices.Repeat([]api.Event{closed("a")}, size)),
	} {
		list := canon.Pieces(events)
		end := len(canon.Print(events))
		want := map[string][2]int{"opens": {0, end}, "texts": {0, 1}, "both": {0, end}}
		if what == "closes" && len(list) != 0 || what != "closes" && (len(list) != size || list[0] != want[what]) {
			t.Errorf("P8.4: many %s: %d pieces", what, len(list))
		}
	}
	if used := time.Since(begin); used > 20*time.Second {
		t.Errorf("%v", used)
	}
}
