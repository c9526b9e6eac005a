package canon_test

import (
	"errors"
	"slices"
	"strings"
	"testing"
	"unicode/utf8"

	"gimlet/api"
	"gimlet/canon"
	"gimlet/chars"
	"gimlet/nest"
)

// What follows holds the calls against the document's own words: what an event adds is written out once more, pieces are found by going through all events for each, and documents are made together with the form that they must have.

// adds: P8.1.
func adds(e api.Event) string {
	inText := strings.NewReplacer("&", "&amp;", "<", "&lt;", ">", "&gt;", "\r", "&#xD;")
	inValue := strings.NewReplacer("&", "&amp;", "<", "&lt;", "\"", "&quot;", "\t", "&#x9;", "\n", "&#xA;", "\r", "&#xD;")
	switch e.Kind {
	case api.Open:
		tag := "<" + e.Name
		for _, a := range e.Attrs {
			tag += " " + a.Name + "=\"" + inValue.Replace(a.Value) + "\""
		}
		return tag + ">"
	case api.Text:
		return inText.Replace(e.Text)
	case api.Close:
		return "</" + e.Name + ">"
	}
	return ""
}

func printed(events []api.Event) string {
	all := ""
	for _, e := range events {
		all += adds(e)
	}
	return all
}

// closers: P8.4: of each Open that has one the number of its Close, by the numbers of events.
func closers(events []api.Event) map[int]int {
	found := map[int]int{}
	for i, e := range events {
		if e.Kind != api.Close {
			continue
		}
		for o := i - 1; o >= 0; o-- {
			if _, has := found[o]; events[o].Kind == api.Open && !has {
				found[o] = i
				break
			}
		}
	}
	return found
}

// piecesOf: P8.4, by its words.
func piecesOf(events []api.Event) [][2]int {
	var list [][2]int
	found := closers(events)
	for i, e := range events {
		from := len(printed(events[:i]))
		switch c, has := found[i]; {
		case e.Kind == api.Text:
			list = append(list, [2]int{from, len(printed(events[:i+1]))})
		case e.Kind == api.Open && has:
			list = append(list, [2]int{from, len(printed(events[:c+1]))})
		case e.Kind == api.Open:
			list = append(list, [2]int{from, len(printed(events))})
		}
	}
	return list
}

// needWhole: 'What follows': of two pieces neither begins in the other and ends behind it.
func needWhole(t *testing.T, list [][2]int) {
	t.Helper()
	for i, a := range list {
		for _, b := range list[i+1:] {
			if a[0] > b[0] || b[0] < a[1] && a[1] < b[1] {
				t.Fatalf("P8.4: the pieces %v and %v lie in one another in part", a, b)
			}
		}
	}
}

func TestAllShortEvents(t *testing.T) {
	t.Parallel()
	some := []api.Event{
		open("a", api.Attr{Name: "b", Value: "\"<>\r"}), open(""), text("<é\r\n"), text(""), closed("a"), closed("bc"), {Kind: 3, Name: "a", Text: "x"},
	}
	var try func(events []api.Event, left int)
	try = func(events []api.Event, left int) {
		if got, want := canon.Print(events), printed(events); got != want {
			t.Fatalf("P8.2: Print(%+v) = %q, want %q", events, got, want)
		}
		got := canon.Pieces(events)
		if want := piecesOf(events); !slices.Equal(got, want) {
			t.Fatalf("P8.4: Pieces of %q: %v, want %v", printed(events), got, want)
		}
		needWhole(t, got)
		if left == 0 {
			return
		}
		for _, e := range some {
			try(append(events[:len(events):len(events)], e), left-1)
		}
	}
	try(nil, 5)
}

// TestLongerEvents: Opens and Closes alone, so that more of them lie in one another.
func TestLongerEvents(t *testing.T) {
	t.Parallel()
	for n := range 12 {
		for bits := range 1 << n {
			var events []api.Event
			for i := range n {
				if bits>>i&1 == 1 {
					events = append(events, open("a"))
				} else {
					events = append(events, closed("a"))
				}
			}
			got := canon.Pieces(events)
			if want := piecesOf(events); !slices.Equal(got, want) {
				t.Fatalf("P8.4: Pieces of %q: %v, want %v", printed(events), got, want)
			}
			needWhole(t, got)
		}
	}
}

// writing is a way to write something in a document, and its canonical form.
type writing struct{ written, form string }

func texts() []writing {
	return []writing{
		{"", ""}, {"x", "x"}, {"é", "é"}, {"&#xE9;", "é"}, {"<![CDATA[é]]>", "é"}, {"<![CDATA[<&]]>", "&lt;&amp;"}, {"<![CDATA[]]>", ""}, {"<!-- & -->", ""},
		{"&lt;&#38;", "&lt;&amp;"}, {">", "&gt;"}, {"&quot;'", "\"'"}, {"\n", "\n"}, {"\r", "\n"}, {"\r\n", "\n"}, {"\t", "\t"}, {"&#13;", "&#xD;"}, {"&#xA;", "\n"}, {"<![CDATA[\r\n]]>", "\n"}, {"&amp;lt;", "&amp;lt;"},
	}
}

func values() []writing {
	return []writing{
		{"''", ""}, {"\"\"", ""}, {"'x'", "x"}, {"\"é\"", "é"}, {"'&#233;'", "é"}, {"'\"'", "&quot;"}, {"\"'\"", "'"}, {"'&quot;&apos;'", "&quot;'"}, {"'>&gt;&lt;&amp;'", ">>&lt;&amp;"},
		{"'\t\n\r\n\r'", "    "}, {"'&#9;&#10;&#13;'", "&#x9;&#xA;&#xD;"}, {"' \r\n&#xd;\r\n '", "  &#xD;  "},
	}
}

// around: an element that holds this, without attributes; blanks stand in both tags.
func around(within writing, name, blanks string) writing {
	return writing{"<" + name + blanks + ">" + within.written + "</" + name + blanks + ">", "<" + name + ">" + within.form + "</" + name + ">"}
}

// needBoth: the form, and the form's own form.
func needBoth(t *testing.T, w writing) {
	t.Helper()
	needForm(t, w.written, w.form)
	needForm(t, w.form, w.form)
}

// TestWrittenTexts: any two behind one another, around an element, in one.
func TestWrittenTexts(t *testing.T) {
	t.Parallel()
	for _, one := range texts() {
		for _, two := range texts() {
			if strings.HasSuffix(one.written, "\r") && strings.HasPrefix(two.written, "\n") {
				continue // both would be one line end
			}
			both := writing{one.written + two.written, one.form + two.form}
			needBoth(t, around(both, "a", ""))
			needBoth(t, around(writing{one.written + "<b/>" + two.written, one.form + "<b></b>" + two.form}, "é", " \r\n"))
			within := around(two, "a", "\t")
			needBoth(t, around(writing{one.written + within.written + both.written, one.form + within.form + both.form}, "a", ""))
			needBoth(t, writing{" <!--c-->" + around(both, "_", "").written + "\r\n", around(both, "_", "").form})
		}
	}
}

// TestWrittenValues: any two of them, in either order, of tags of either kind.
func TestWrittenValues(t *testing.T) {
	t.Parallel()
	for _, one := range values() {
		for _, two := range values() {
			form := "<a b=\"" + one.form + "\" é=\"" + two.form + "\"></a>"
			for _, d := range []string{
				"<a b=" + one.written + " é=" + two.written + "/>", "<a\té =\n" + two.written + "\r\n b = " + one.written + " ></a\r>", "<a é=" + two.written + " b=" + one.written + "></a>",
			} {
				needBoth(t, writing{d, form})
			}
		}
	}
}

// TestEachCharacter: DOC.md's canonical form of each allowed character, in a text and in a value, as it is and as a reference.
func TestEachCharacter(t *testing.T) {
	t.Parallel()
	inText := map[rune]string{'&': "&amp;", '<': "&lt;", '>': "&gt;", 0x0D: "&#xD;"}
	inValue := map[rune]string{'&': "&amp;", '<': "&lt;", '"': "&quot;", 0x09: "&#x9;", 0x0A: "&#xA;", 0x0D: "&#xD;"}
	var asText, asValue, all strings.Builder
	for r := rune(0); r <= utf8.MaxRune; r++ {
		if !chars.Is(api.Allowed, r) {
			continue
		}
		all.WriteString(reference(r))
		write(&asText, inText, r)
		write(&asValue, inValue, r)
	}
	d := "<a b='" + all.String() + "'>" + all.String() + "</a>"
	form := "<a b=\"" + asValue.String() + "\">" + asText.String() + "</a>"
	for _, x := range []string{d, form} {
		if got, err := canon.Form([]byte(x)); got != form || err != nil {
			t.Errorf("P8.3: Form of all characters: %q, %v", short(got), err)
		}
	}
}

func write(out *strings.Builder, forms map[rune]string, r rune) {
	if s, ok := forms[r]; ok {
		out.WriteString(s)
	} else {
		out.WriteRune(r)
	}
}

// reference: to a character, by its digits.
func reference(r rune) string {
	digits := ""
	for ; r > 0; r /= 10 {
		digits = string('0'+r%10) + digits
	}
	return "&#" + digits + ";"
}

// placeless: events without their places.
func placeless(events []api.Event) []api.Event {
	list := slices.Clone(events)
	for i := range list {
		list[i].From, list[i].To = 0, 0
	}
	return list
}

// needSameEvents: P8: the form is a document with the same events but for places, and its own form.
func needSameEvents(t *testing.T, d string, events []api.Event, form string) {
	t.Helper()
	again, err := nest.Events([]byte(form), api.MaxDepth)
	same := slices.EqualFunc(placeless(events), placeless(again), func(a, b api.Event) bool {
		attrs := slices.Equal(a.Attrs, b.Attrs)
		return attrs && a.Kind == b.Kind && a.Number == b.Number && a.Depth == b.Depth && a.Name == b.Name && a.Text == b.Text
	})
	if err != nil || !same {
		t.Fatalf("P8: %q has the form %q, with other events: %v", d, form, err)
	}
	needForm(t, form, form)
}

// needNodes: P8.4: the n-th piece is the canonical form of node n; an element's own bytes are a document with just that form.
func needNodes(t *testing.T, d string, events []api.Event, form string) {
	t.Helper()
	list := canon.Pieces(events)
	nodes := 0
	for _, e := range events {
		if e.Kind != api.Open {
			nodes++ // each Text, and each element once: by its Close
		}
		if e.Number >= len(list) {
			t.Fatalf("P8.4: %q: no piece for node %d", d, e.Number)
		}
		piece := form[list[e.Number][0]:list[e.Number][1]]
		switch {
		case e.Kind == api.Text && piece != adds(e):
			t.Fatalf("P8.4: %q: node %d is %q, want %q", d, e.Number, piece, adds(e))
		case e.Kind == api.Close:
			needForm(t, d[e.From:e.To], piece)
		}
	}
	if len(list) != nodes || list[0] != [2]int{0, len(form)} {
		t.Fatalf("P8.4: %q: %v, of %d nodes", d, list, nodes)
	}
	needWhole(t, list)
}

// needByEvents: P8.3: what Form answers of any bytes by layer 7's answer.
func needByEvents(t *testing.T, d string) (sound bool) {
	t.Helper()
	form, err := canon.Form([]byte(d))
	events, want := nest.Events([]byte(d), api.MaxDepth)
	if want == nil {
		if err != nil || form != printed(events) {
			t.Fatalf("P8.3: Form(%q) = %q, %v, want %q", d, form, err, printed(events))
		}
		needSameEvents(t, d, events, form)
		return true
	}
	var f, g *api.Fault
	if form != "" || !errors.As(want, &g) || !errors.As(err, &f) || *f != *g || !errors.Is(err, g.Why) {
		t.Fatalf("P8.3: Form(%q) = %q, %v, want %v", d, form, err, want)
	}
	return false
}

func TestDocuments(t *testing.T) {
	t.Parallel()
	for _, d := range allDocuments() {
		if !needByEvents(t, d) {
			t.Fatalf("%q is no document", d)
		}
		events, _ := nest.Events([]byte(d), api.MaxDepth)
		needNodes(t, d, events, printed(events))
	}
}

// TestCuts: each beginning of each document; only those that end behind the root are documents.
func TestCuts(t *testing.T) {
	t.Parallel()
	for _, d := range allDocuments() {
		events, _ := nest.Events([]byte(d), api.MaxDepth)
		root := events[len(events)-1]
		for n := range len(d) {
			if sound := needByEvents(t, d[:n]); sound && n < root.To {
				t.Errorf("P8.3: Form of %q is answered", d[:n])
			} else if n < root.To {
				needFault(t, d[:n], api.ErrDocument, n)
			}
		}
	}
}

// TestOtherBytes: each other byte in the place of each, ahead of each, and each left out.
func TestOtherBytes(t *testing.T) {
	t.Parallel()
	for _, d := range allDocuments() {
		for n := range len(d) {
			needByEvents(t, d[:n]+d[n+1:])
			needFault(t, d[:n]+"\xFF"+d[n:], api.ErrDocument, n)
			needFault(t, d[:n]+"\x00"+d[n+1:], api.ErrDocument, n)
			for x := range 256 {
				other := string([]byte{byte(x)})
				needByEvents(t, d[:n]+other+d[n+1:])
				needByEvents(t, d[:n]+other+d[n:])
			}
		}
	}
}
