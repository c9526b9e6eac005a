package hopes_test

import (
	"math"
	"slices"
	"strings"
	"testing"

	"gimlet/api"
	"gimlet/chars"
	"gimlet/half"
	"gimlet/hopes"
)

// What follows tries events that aren't the next ones of a beginning, ahead of each that is.

// turned: its events are 0 Open a, 1 Text b, 2 Open c, 3 Close c, 4 Text d, 5 Open e, 6 Text f, 7 Close e, 8 Close a.
const turned = "<a p='1' q='2'>b<c/>d<e>f</e></a>"

// goesOn: e may be the next one behind these events of a beginning, by layer 9's words.
func goesOn(events []api.Event, e api.Event) bool {
	var open []api.Event
	nodes := 0
	for _, e := range events {
		switch e.Kind {
		case api.Open:
			open = append(open, e)
			nodes++
		case api.Text:
			nodes++
		case api.Close:
			open = open[:len(open)-1]
		}
	}
	deep := len(open)
	if len(events) > 0 && deep == 0 {
		return false // the root element is closed
	}
	switch {
	case e.Kind == api.Open:
		return e.Number == nodes && e.Depth == deep+1 && chars.Name(e.Name) && e.Text == "" && areAttrs(e.Attrs)
	case e.Kind == api.Text && deep > 0:
		return events[len(events)-1].Kind != api.Text && e.Number == nodes && e.Depth == deep+1 && e.Text != "" && chars.Texts(e.Text) && e.Name == "" && len(e.Attrs) == 0
	case e.Kind == api.Close && deep > 0:
		was := open[deep-1]
		return e.Number == was.Number && e.Depth == was.Depth && e.Name == was.Name && e.Text == "" && len(e.Attrs) == 0
	}
	return false
}

func areAttrs(list []api.Attr) bool {
	for i, a := range list {
		if !chars.Name(a.Name) || !chars.Texts(a.Value) || i > 0 && slices.Compare([]rune(list[i-1].Name), []rune(a.Name)) >= 0 {
			return false
		}
	}
	return true
}

// feeder feeds a Hopes, and holds each of its answers against goesOn.
type feeder struct {
	h       *hopes.Hopes
	preds   int
	taken   []api.Event
	refused int
}

func newFeeder(t testing.TB, q string) *feeder {
	n := netOf(t, query(t, q))
	return &feeder{h: started(t, n), preds: len(n.Preds)}
}

// feed: P18.2 of one event. It answers whether it was taken; where it wasn't, nothing is changed.
func (f *feeder) feed(t *testing.T, e api.Event) bool {
	t.Helper()
	before, entries := lettersOf(f.h, f.preds), f.h.Entries()
	got, is := f.h.Take(e), goesOn(f.taken, e)
	switch {
	case is && got != api.OK, !is && got != api.ErrShape:
		t.Fatalf("P18.2: Take of %+v behind %s: %d", e, formOf(f.taken), got)
	case is:
		f.taken = append(f.taken, e)
	case lettersOf(f.h, f.preds) != before || f.h.Entries() != entries:
		t.Fatalf("rule 3: Take of %+v behind %s changed%s to%s, %d to %d", e, formOf(f.taken), before, lettersOf(f.h, f.preds), entries, f.h.Entries())
	default:
		f.refused++
	}
	return is
}

// with: the event with one field changed in many ways.
func with(e api.Event) []api.Event {
	var list []api.Event
	change := func(change func(e *api.Event)) {
		other := e
		other.Attrs = slices.Clone(e.Attrs)
		change(&other)
		list = append(list, other)
	}
	for _, x := range []int{math.MinInt, math.MinInt32, -2, -1, 0, 1, 2, 3, 4, 5, 6, 7, 8, 256, math.MaxInt32, math.MaxInt} {
		change(func(e *api.Event) { e.Kind = api.EventKind(x) })
		change(func(e *api.Event) { e.Number = x })
		change(func(e *api.Event) { e.Depth = x })
		change(func(e *api.Event) { e.Number += x })
		change(func(e *api.Event) { e.Depth += x })
	}
	for _, name := range []string{"", "1", "-a", "a b", "a\x00", "\xFF", "a\xFF", ":", "a:b", "a ", "×", "<", "\u0300", "\U000F0000", "\uFFFE", "a>", "a='b' c", "A"} {
		change(func(e *api.Event) { e.Name = name })
		change(func(e *api.Event) { e.Name += name })
		change(func(e *api.Event) { e.Attrs = append(e.Attrs, api.Attr{Name: name, Value: "x"}) })
		change(func(e *api.Event) { e.Attrs = []api.Attr{{Name: name, Value: "x"}} })
	}
	for _, text := range []string{"", "x", "\x00", "\xFF", "\xC3", "\uFFFE", "\uFFFF", "\x1F", "\v", "a\x00b", "\xED\xA0\x80"} {
		change(func(e *api.Event) { e.Text = text })
		change(func(e *api.Event) { e.Text += text })
		change(func(e *api.Event) { e.Attrs = []api.Attr{{Name: "z", Value: text}} })
		change(func(e *api.Event) { e.Attrs = append(e.Attrs, api.Attr{Name: "z", Value: text}) })
	}
	change(func(e *api.Event) { slices.Reverse(e.Attrs) })
	change(func(e *api.Event) { e.Attrs = append(e.Attrs, e.Attrs...) })
	change(func(e *api.Event) { e.Attrs = []api.Attr{{Name: "\U00010000"}, {Name: "\uFFFD"}} })
	change(func(e *api.Event) { e.Attrs = []api.Attr{} })
	return list
}

// TestWrongEvents: ahead of each event of a document, and behind all, each other one and itself with a field changed; what is refused changes nothing.
func TestWrongEvents(t *testing.T) {
	t.Parallel()
	for _, d := range []string{turned, "<a/>", "<a>b<b>a<c>c</c></b></a>", "<a b='' a='b'><b b='ab'>a</b></a>"} {
		events := eventsOf(t, d)
		for many := range len(events) + 1 {
			fed := func() *feeder {
				f := newFeeder(t, "a[b = 'a'][.//c]")
				for _, e := range events[:many] {
					if !f.feed(t, e) {
						t.Fatalf("P18.2: %s: %+v refused", d, e)
					}
				}
				return f
			}
			f := fed()
			for i, e := range events {
				for _, other := range append(with(e), e) {
					if f.feed(t, other) {
						f = fed()
					}
				}
				if i == many && !f.feed(t, e) {
					t.Fatalf("P18.2: %s: %+v refused behind %d others", d, e, f.refused)
				} else if i == many {
					f = fed()
				}
			}
		}
	}
}

// wrong is an event that is no next one behind the first events of turned.
type wrong struct {
	what string
	many int
	e    api.Event
}

func wrongs() []wrong {
	open := func(number, depth int) api.Event {
		return api.Event{Kind: api.Open, Number: number, Depth: depth, Name: "a"}
	}
	text := func(number, depth int) api.Event {
		return api.Event{Kind: api.Text, Number: number, Depth: depth, Text: "x"}
	}
	closed := func(number, depth int, name string) api.Event {
		return api.Event{Kind: api.Close, Number: number, Depth: depth, Name: name}
	}
	return []wrong{
		{"a Text ahead of all", 0, text(0, 1)}, {"a Close ahead of all", 0, closed(0, 1, "a")}, {"a Close of the root above", 0, closed(-1, 0, "")}, {"nothing", 0, api.Event{}},
		{"the number 1 first", 0, open(1, 1)}, {"the number -1 first", 0, open(-1, 1)}, {"the depth 2 first", 0, open(0, 2)}, {"the depth 0 first", 0, open(0, 0)},
		{"a Text behind a Text", 2, text(2, 2)}, {"the root once more", 2, open(0, 1)}, {"a number twice", 2, open(1, 2)}, {"a number left out", 2, open(3, 2)}, {"a root beside the root", 2, open(2, 1)}, {"a node too deep", 2, open(2, 3)},
		{"a Text in what isn't there", 1, text(1, 3)}, {"a Text in the root above", 1, text(1, 1)}, {"a Close of the one above", 3, closed(0, 1, "a")}, {"a Close by the number of the one above", 3, closed(0, 2, "c")}, {"a Close by its name", 3, closed(2, 2, "a")}, {"a Close of a text", 2, closed(1, 2, "")},
		{"a Close twice", 4, closed(2, 2, "c")}, {"a node in a closed one", 4, open(3, 3)}, {"a text in a closed one", 4, text(3, 3)},
		{"a Close behind the end", 9, closed(0, 1, "a")}, {"an Open behind the end", 9, open(6, 1)}, {"the root behind the end", 9, open(0, 1)}, {"an Open in the root behind the end", 9, open(6, 2)}, {"a Text behind the end", 9, text(6, 1)}, {"a Text in the root behind the end", 9, text(6, 2)}, {"the root above's Close behind the end", 9, closed(-1, 0, "")}, {"nothing behind the end", 9, api.Event{}}, {"a kind that is none behind the end", 9, api.Event{Kind: 3}},
	}
}

// TestWrongs: each wrong event by hand, refused ever again, and the right one taken behind it.
func TestWrongs(t *testing.T) {
	events := eventsOf(t, turned)
	for _, w := range wrongs() {
		f := newFeeder(t, "a[c][e = 'f']")
		for _, e := range events[:w.many] {
			f.feed(t, e)
		}
		for range 3 {
			if e := f.h.Take(w.e); e != api.ErrShape {
				t.Errorf("P18.2: %s: %d", w.what, e)
			}
		}
		for _, e := range events[w.many:] {
			if !f.feed(t, e) {
				t.Errorf("P18.2: %s, and then %+v: refused", w.what, e)
			}
		}
		if got := lettersOf(f.h, f.preds); got != " FF TT" {
			t.Errorf("P18.2: %s: at the end%s", w.what, got)
		}
	}
}

// TestAllShortEvents: all lists of up to four of these, numbers, depths and names being any of a few, as layer 15 has them.
func TestAllShortEvents(t *testing.T) {
	t.Parallel()
	some := []api.Event{{Kind: 3, Depth: 1, Name: "a"}}
	for number := range 3 {
		for depth := 1; depth < 4; depth++ {
			some = append(some, api.Event{Kind: api.Text, Number: number, Depth: depth, Text: "x"})
			for _, name := range []string{"a", "b"} {
				some = append(some, api.Event{Kind: api.Open, Number: number, Depth: depth, Name: name}, api.Event{Kind: api.Close, Number: number, Depth: depth, Name: name})
			}
		}
	}
	good := 0
	var try func(list []api.Event, left int)
	try = func(list []api.Event, left int) {
		if left == 0 {
			return
		}
		for _, e := range some {
			f := newFeeder(t, "a[b]")
			for _, e := range list {
				f.feed(t, e)
			}
			more := append(list[:len(list):len(list)], e)
			_, want := half.Holds(more, -1, there(child("b")))
			if is := f.feed(t, e); is != (want == api.OK) {
				t.Errorf("P18.2: %s: %v, layer 15: %d", formOf(more), is, want)
			} else if is {
				good++
				try(more, left-1)
			}
		}
	}
	try(nil, 4)
	if good < 50 {
		t.Errorf("P18.2: only %d lists are a beginning's", good)
	}
}

// TestFromTo: they aren't looked at.
func TestFromTo(t *testing.T) {
	for i, from := range []int{math.MinInt, -1, 0, 7, math.MaxInt} {
		f := newFeeder(t, "a[c][e = 'f']")
		for _, e := range eventsOf(t, turned) {
			e.From, e.To = from, -i*from
			if !f.feed(t, e) {
				t.Fatalf("P18.2: %+v: refused", e)
			}
		}
		if got := lettersOf(f.h, f.preds); got != " FF TT" {
			t.Errorf("P18.2: From %d: at the end%s", from, got)
		}
	}
}

// TestGoodEvents: names, values and texts of all kinds.
func TestGoodEvents(t *testing.T) {
	for _, name := range []string{"b", "_", "é-1", "a.·", "\uFFFD", "\U000EFFFF", "text", strings.Repeat("é", 5000)} {
		for _, text := range []string{" ", "\r", "\t\n", "\uFFFD", "\U0010FFFF", "<&>\"']]>", "é\U0001F600"} {
			f := newFeeder(t, "a[*]")
			for _, e := range []api.Event{
				{Kind: api.Open, Depth: 1, Name: name, Attrs: []api.Attr{{Name: name, Value: text}, {Name: name + "0", Value: ""}}},
				{Kind: api.Text, Number: 1, Depth: 2, Text: text},
				{Kind: api.Open, Number: 2, Depth: 2, Name: name},
				{Kind: api.Close, Number: 2, Depth: 2, Name: name, Attrs: []api.Attr{}},
				{Kind: api.Close, Depth: 1, Name: name},
			} {
				if !f.feed(t, e) {
					t.Errorf("P18.2: %+v: refused", e)
				}
			}
		}
	}
}
