package tree_test

import (
	"errors"
	"reflect"
	"slices"
	"strings"
	"testing"

	"gimlet/api"
	"gimlet/canon"
	"gimlet/chars"
	"gimlet/nest"
	"gimlet/tree"
)

// What follows holds the calls against the document's own words: which lists of events are a document's is read by recursion, a node's parent is found by going back through the events, and what an axis leads to is found by asking each node for its parents.

func documents() []string {
	return []string{
		"<a/>", "<a></a>", "<a>x</a>", chapters, turned,
		"<a><b/></a>", "<a><b/><b/></a>", "<a><a><a/></a></a>", "<a><b><c>x</c></b><d/></a>", "<a>x<b>y<c>z</c></b></a>", "<a><b/>x<b/><c><d/></c>y</a>",
		"<a> <b>\n</b>\t</a>", "<é ü='1' a=\"2\"><b é='&lt;'/>&amp;</é>",
		" <!--c--><a>x<!-- y -->&#122;<![CDATA[<]]>&#13;\r\n</a >\r\n",
		"<a z='' y='&#9;' x='&quot;'><b>1<b>2<b>3</b>4</b>5</b>6</a>",
		"<r><a><b/></a><a/><x>t<y/>u</x></r>",
	}
}

// reader reads events as a document's, by the chapter's words.
type reader struct {
	events []api.Event
	at     int
	nodes  int
}

// isDocument: one element, and nothing behind it.
func isDocument(events []api.Event) bool {
	r := &reader{events: events}
	return r.element(1) && r.at == len(events)
}

// is: there is one more event, of that kind.
func (r *reader) is(kind api.EventKind) bool {
	return r.at < len(r.events) && r.events[r.at].Kind == kind
}

func (r *reader) element(depth int) bool {
	if !r.is(api.Open) {
		return false
	}
	open := r.events[r.at]
	if open.Number != r.nodes || open.Depth != depth || open.Text != "" || !chars.Name(open.Name) || !soundAttrs(open.Attrs) {
		return false
	}
	r.at++
	r.nodes++
	for hadText := false; !r.is(api.Close); {
		if r.is(api.Text) && !hadText {
			hadText = r.text(depth + 1)
			if !hadText {
				return false
			}
		} else if hadText = false; !r.element(depth + 1) {
			return false
		}
	}
	want := api.Event{Kind: api.Close, Number: open.Number, Depth: depth, Name: open.Name}
	r.at++
	return same(r.events[r.at-1], want)
}

func (r *reader) text(depth int) bool {
	e := r.events[r.at]
	r.at++
	r.nodes++
	want := api.Event{Kind: api.Text, Number: r.nodes - 1, Depth: depth, Text: e.Text}
	return same(e, want) && e.Text != "" && chars.Texts(e.Text)
}

// same: but for places.
func same(a, b api.Event) bool {
	attrs := slices.Equal(a.Attrs, b.Attrs)
	return attrs && a.Kind == b.Kind && a.Number == b.Number && a.Depth == b.Depth && a.Name == b.Name && a.Text == b.Text
}

// soundAttrs: those of a document's Open.
func soundAttrs(attrs []api.Attr) bool {
	for _, a := range attrs {
		if !chars.Name(a.Name) || !chars.Texts(a.Value) {
			return false
		}
	}
	byCharacters := func(a, b api.Attr) int { return slices.Compare([]rune(a.Name), []rune(b.Name)) }
	return slices.IsSortedFunc(attrs, byCharacters) && apart(attrs)
}

// apart: no two attributes have one name.
func apart(attrs []api.Attr) bool {
	names := map[string]bool{}
	for _, a := range attrs {
		names[a.Name] = true
	}
	return len(names) == len(attrs)
}

// printed: the canonical form of events, by layer 8.
func printed(events []api.Event) string {
	var all strings.Builder
	for _, e := range events {
		all.WriteString(canon.Event(e))
	}
	return all.String()
}

// known is what a list of events says of its nodes.
type known struct {
	events  []api.Event
	told    []int // of each node: its Open or Text among the events
	parents []int
}

func read(events []api.Event) known {
	k := known{events: events}
	for i, e := range events {
		if e.Kind != api.Close {
			k.told = append(k.told, i)
			k.parents = append(k.parents, parentAt(events, i))
		}
	}
	return k
}

// parentAt: the last Open ahead that has no Close ahead.
func parentAt(events []api.Event, at int) int {
	closed := 0
	for i := at - 1; i >= 0; i-- {
		switch {
		case events[i].Kind == api.Close:
			closed++
		case events[i].Kind == api.Open && closed == 0:
			return events[i].Number
		case events[i].Kind == api.Open:
			closed--
		}
	}
	return -1
}

// isIn: m is in n, however deep.
func (k known) isIn(m, n int) bool {
	for m >= 0 {
		m = k.parents[m]
		if m == n {
			return true
		}
	}
	return false
}

// along: P9.4, by asking each node.
func (k known) along(n int, a api.Axis) []int {
	var list []int
	for m := -1; m < len(k.told); m++ {
		self, child := m == n, m >= 0 && k.parents[m] == n
		switch {
		case a == api.Child && child, a == api.Descendant && k.isIn(m, n), a == api.OrSelf && (self || k.isIn(m, n)), a == api.Self && self:
			list = append(list, m)
		}
	}
	return list
}

// value: all texts that are in n or are n, in order.
func (k known) value(n int) string {
	all := ""
	for m, i := range k.told {
		if m == n || k.isIn(m, n) {
			all += k.events[i].Text
		}
	}
	return all
}

// form: DOC.md's canonical form, of what is in a node by recursion.
func (k known) form(n int) string {
	if n < 0 {
		return k.form(0)
	}
	e := k.events[k.told[n]]
	if e.Kind == api.Text {
		return canon.Event(e)
	}
	all := canon.Event(e)
	for m, parent := range k.parents {
		if parent == n {
			all += k.form(m)
		}
	}
	return all + "</" + e.Name + ">"
}

// needTree: P9.2 to P9.6: the tree of these events, asked of all.
func needTree(t *testing.T, p *tree.Tree, events []api.Event) {
	t.Helper()
	k := read(events)
	if got := p.Events(); !reflect.DeepEqual(got, events) {
		t.Fatalf("P9.2: Events() = %+v, want %+v", got, events)
	}
	if p.Len() != len(k.told) {
		t.Fatalf("P9.3: %+v: Len() = %d, want %d", events, p.Len(), len(k.told))
	}
	for n := range p.Len() {
		if got, e := p.Node(n); e != api.OK || !reflect.DeepEqual(got, events[k.told[n]]) {
			t.Fatalf("P9.3: Node(%d) = %+v, %d, want %+v", n, got, e, events[k.told[n]])
		}
		if got, e := p.Parent(n); e != api.OK || got != k.parents[n] {
			t.Fatalf("P9.3: %+v: Parent(%d) = %d, %d, want %d", events, n, got, e, k.parents[n])
		}
	}
	for n := -1; n < p.Len(); n++ {
		for a := api.Axis(-1); a <= api.Self+1; a++ {
			if got, want := slices.Collect(p.Along(n, a)), k.along(n, a); !slices.Equal(got, want) {
				t.Fatalf("P9.4: %+v: Along(%d, %d) = %v, want %v", events, n, a, got, want)
			}
		}
		if got, e := p.Value(n); e != api.OK || got != k.value(n) {
			t.Fatalf("P9.5: %+v: Value(%d) = %q, %d, want %q", events, n, got, e, k.value(n))
		}
		if got, e := p.Print(n); e != api.OK || got != k.form(n) {
			t.Fatalf("P9.5: %+v: Print(%d) = %q, %d, want %q", events, n, got, e, k.form(n))
		}
	}
	needErrors(t, p, -2, api.ErrRange)
	needErrors(t, p, p.Len(), api.ErrRange)
	needAlike(t, p)
}

// needAlike: P9.6.
func needAlike(t *testing.T, p *tree.Tree) {
	t.Helper()
	events := p.Events()
	again, e := tree.Build(events)
	if e != api.OK || !reflect.DeepEqual(again.Events(), events) {
		t.Fatalf("P9.6: Build of Events: %d, of %+v", e, events)
	}
	form, _ := p.Print(0)
	other, err := tree.Parse([]byte(form), api.MaxDepth)
	if err != nil || !slices.EqualFunc(other.Events(), events, same) {
		t.Fatalf("P9.6: Parse of Print(0), %q: %v", form, err)
	}
	for n := -1; n < p.Len(); n++ {
		next := n + 1
		for m := range p.Along(n, api.Descendant) {
			if m != next {
				t.Fatalf("P9.6: %q: a gap at %d in %d", form, next, n)
			}
			next++
		}
	}
}

func TestDocuments(t *testing.T) {
	t.Parallel()
	for _, d := range documents() {
		events := eventsOf(t, d)
		needTree(t, parsed(t, d), events)
		p, e := tree.Build(events)
		if e != api.OK {
			t.Fatalf("P9.2: %q: %d", d, e)
		}
		needTree(t, p, events)
	}
}

// needByWords: P9.2, at any list of events.
func needByWords(t *testing.T, events []api.Event) bool {
	t.Helper()
	p, e := tree.Build(events)
	if !isDocument(events) {
		if p != nil || e != api.ErrShape {
			t.Fatalf("P9.2: %+v: %d, want ErrShape", events, e)
		}
		return false
	}
	if p == nil || e != api.OK {
		t.Fatalf("P9.2: %+v: %d, want a tree", events, e)
	}
	return true
}

// TestAllShortEvents: all lists of up to three of these, numbers, depths and names being any of a few.
func TestAllShortEvents(t *testing.T) {
	t.Parallel()
	var some []api.Event
	for _, kind := range []api.EventKind{api.Open, api.Text, api.Close, 3} {
		for _, number := range []int{-1, 0, 1, 2} {
			for depth := range 4 {
				for _, name := range []string{"", "a", "b"} {
					e := api.Event{Kind: kind, Number: number, Depth: depth, Name: name}
					if kind == api.Text {
						e.Text = "x"
					}
					some = append(some, e)
				}
			}
		}
	}
	sound := 0
	needAll(t, some, nil, 3, &sound)
	if sound != 4 { // a b, alone and with a text in it
		t.Errorf("P9.2: %d lists are a document's", sound)
	}
}

// needAll: needByWords of all lists that begin so; counts those that are a document's.
func needAll(t *testing.T, some, list []api.Event, left int, sound *int) {
	t.Helper()
	if needByWords(t, list) {
		*sound++
	}
	if left == 0 {
		return
	}
	for _, e := range some {
		needAll(t, some, append(list[:len(list):len(list)], e), left-1, sound)
	}
}

// TestLongerEvents: kinds and names in every order; numbers and depths are counted as they must be, as far as there are any.
func TestLongerEvents(t *testing.T) {
	t.Parallel()
	sound := 0
	var try func(list, open []api.Event, nodes, left int)
	try = func(list, open []api.Event, nodes, left int) {
		if needByWords(t, list) {
			sound++
			p, _ := tree.Build(list)
			needTree(t, p, list)
		}
		if left == 0 {
			return
		}
		add := func(e api.Event) []api.Event { return append(list[:len(list):len(list)], e) }
		o := api.Event{Kind: api.Open, Number: nodes, Depth: len(open) + 1, Name: "a", Attrs: []api.Attr{{Name: "x", Value: "y"}}}
		try(add(o), append(open[:len(open):len(open)], o), nodes+1, left-1)
		try(add(api.Event{Kind: api.Text, Number: nodes, Depth: len(open) + 1, Text: "x&"}), open, nodes+1, left-1)
		if last := len(open) - 1; last >= 0 {
			try(add(api.Event{Kind: api.Close, Number: open[last].Number, Depth: last + 1, Name: "a"}), open[:last], nodes, left-1)
		} else {
			try(add(api.Event{Kind: api.Close, Depth: 1, Name: "a"}), open, nodes, left-1)
		}
	}
	try(nil, nil, 0, 10)
	if sound < 200 {
		t.Errorf("P9.2: only %d lists are a document's", sound)
	}
}

// TestTwoChanges: each event of a document is left out, told twice, put in another's place; and then one field of one event is another's.
func TestTwoChanges(t *testing.T) {
	t.Parallel()
	for _, d := range documents() {
		events := eventsOf(t, d)
		for i := range events {
			for _, list := range [][]api.Event{slices.Delete(slices.Clone(events), i, i+1), slices.Insert(slices.Clone(events), i, events[i]), events[:i], events[i:]} {
				needByWords(t, list)
				needFields(t, list)
			}
			for k := range events {
				list := slices.Clone(events)
				list[i], list[k] = list[k], list[i]
				needByWords(t, list)
				list[k] = events[k]
				needByWords(t, list)
			}
		}
		needFields(t, events)
	}
}

// needFields: each event with each field of each other one.
func needFields(t *testing.T, events []api.Event) {
	t.Helper()
	for i, was := range events {
		for _, other := range events {
			for field := range 8 {
				list := slices.Clone(events)
				e := was
				switch field {
				case 0:
					e.Kind = other.Kind
				case 1:
					e.Number = other.Number
				case 2:
					e.Depth = other.Depth
				case 3:
					e.Name = other.Name
				case 4:
					e.Attrs = other.Attrs
				case 5:
					e.Text = other.Text
				case 6:
					e.From = other.From
				case 7:
					e.To = other.To
				}
				list[i] = e
				needByWords(t, list)
			}
		}
	}
}

// needByEvents: P9.1: what Parse answers of any bytes by layer 7's answer.
func needByEvents(t *testing.T, d string, depth int) {
	t.Helper()
	p, err := tree.Parse([]byte(d), depth)
	events, want := nest.Events([]byte(d), depth)
	if want == nil {
		if err != nil || p == nil || !reflect.DeepEqual(p.Events(), events) || !isDocument(events) {
			t.Fatalf("P9.1: Parse(%q, %d): %v", d, depth, err)
		}
		return
	}
	var f, g *api.Fault
	if p != nil || !errors.As(want, &g) || !errors.As(err, &f) || *f != *g || !errors.Is(err, g.Why) {
		t.Fatalf("P9.1: Parse(%q, %d): %v, %v, want %v", d, depth, p, err, want)
	}
}

// TestCuts: each beginning of each document, with several limits.
func TestCuts(t *testing.T) {
	t.Parallel()
	for _, d := range documents() {
		for n := range len(d) + 1 {
			for depth := range 5 {
				needByEvents(t, d[:n], depth)
			}
		}
	}
}

// TestOtherBytes: other bytes in the place of each, ahead of each, and each left out.
func TestOtherBytes(t *testing.T) {
	t.Parallel()
	for _, d := range documents() {
		for n := range len(d) {
			needByEvents(t, d[:n]+d[n+1:], 9)
			for _, x := range []byte("<>/&;'\"= abx\r\n!-[]\x00\xC3\xFF") {
				other := string([]byte{x})
				needByEvents(t, d[:n]+other+d[n+1:], 9)
				needByEvents(t, d[:n]+other+d[n:], 2)
			}
		}
	}
}
