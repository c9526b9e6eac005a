package tree_test

import (
	"errors"
	"iter"
	"math"
	"reflect"
	"slices"
	"strings"
	"testing"
	"time"

	"gimlet/api"
	"gimlet/nest"
	"gimlet/tree"
)

// chapters: the document of the chapter's examples.
const chapters = "<a x='1'>b<c/>d</a>"

// parsed: the tree of what must be a document.
func parsed(t *testing.T, d string) *tree.Tree {
	t.Helper()
	p, err := tree.Parse([]byte(d), api.MaxDepth)
	if err != nil || p == nil {
		t.Fatalf("P9.1: Parse(%q): %v", d, err)
	}
	return p
}

// eventsOf: of what must be a document.
func eventsOf(t *testing.T, d string) []api.Event {
	t.Helper()
	events, err := nest.Events([]byte(d), api.MaxDepth)
	if err != nil {
		t.Fatalf("%q is no document: %v", d, err)
	}
	return events
}

// noNumbers: some that are of no node of a tree of so many, and not -1.
func noNumbers(nodes int) []int {
	return []int{-2, -3, nodes, nodes + 1, math.MinInt, math.MaxInt, math.MinInt32, math.MaxInt32}
}

// noAxes: axes that are none.
func noAxes() []api.Axis {
	return []api.Axis{-1, 4, 5, 256, math.MinInt, math.MaxInt}
}

func needAlong(t *testing.T, p *tree.Tree, n int, a api.Axis, want ...int) {
	t.Helper()
	if got := slices.Collect(p.Along(n, a)); !slices.Equal(got, want) {
		t.Errorf("P9.4: Along(%d, %d) = %v, want %v", n, a, got, want)
	}
}

func TestAlong(t *testing.T) {
	p := parsed(t, chapters)
	// The chapter's examples.
	needAlong(t, p, -1, api.Child, 0)
	needAlong(t, p, 0, api.Child, 1, 2, 3)
	needAlong(t, p, -1, api.OrSelf, -1, 0, 1, 2, 3)
	needAlong(t, p, 2, api.Descendant)
	needAlong(t, p, 1, api.Self, 1)
	needAlong(t, p, 4, api.Self)
	needAlong(t, p, -2, api.Self)
	needAlong(t, p, 0, 4)
	// The others.
	needAlong(t, p, -1, api.Self, -1)
	needAlong(t, p, -1, api.Descendant, 0, 1, 2, 3)
	needAlong(t, p, 0, api.OrSelf, 0, 1, 2, 3)
	needAlong(t, p, 0, api.Self, 0)
	for n := 1; n < 4; n++ {
		needAlong(t, p, n, api.Child)
		needAlong(t, p, n, api.Descendant)
		needAlong(t, p, n, api.OrSelf, n)
	}
	deep := parsed(t, "<a><b>x<c>y</c></b><d><e/></d>z</a>") // 0 a, 1 b, 2 x, 3 c, 4 y, 5 d, 6 e, 7 z
	needAlong(t, deep, 0, api.Child, 1, 5, 7)
	needAlong(t, deep, 1, api.Child, 2, 3)
	needAlong(t, deep, 1, api.Descendant, 2, 3, 4)
	needAlong(t, deep, 1, api.OrSelf, 1, 2, 3, 4)
	needAlong(t, deep, 5, api.Child, 6)
	needAlong(t, deep, 5, api.Descendant, 6)
	needAlong(t, deep, 6, api.Descendant)
	needAlong(t, deep, 7, api.OrSelf, 7)
	needAlong(t, deep, -1, api.Child, 0)
}

func TestAlongNothing(t *testing.T) {
	p := parsed(t, chapters)
	for a := api.Child; a <= api.Self; a++ {
		for _, n := range noNumbers(p.Len()) {
			needAlong(t, p, n, a)
		}
	}
	for _, a := range noAxes() {
		for n := -1; n < p.Len(); n++ {
			needAlong(t, p, n, a)
		}
		for _, n := range noNumbers(p.Len()) {
			needAlong(t, p, n, a)
		}
	}
}

// firstOf: the first ones of an iterator, which is stopped behind them.
func firstOf(seq iter.Seq[int], count int) []int {
	var list []int
	for n := range seq {
		list = append(list, n)
		if len(list) == count {
			break
		}
	}
	return list
}

// TestIterators: rule 9: gone through again, stopped early anywhere, nested.
func TestIterators(t *testing.T) {
	for _, d := range documents() {
		p := parsed(t, d)
		for n := -1; n < p.Len(); n++ {
			for a := api.Child; a <= api.Self; a++ {
				seq := p.Along(n, a)
				all := slices.Collect(seq)
				for count := 1; count <= len(all); count++ {
					if got := firstOf(seq, count); !slices.Equal(got, all[:count]) {
						t.Fatalf("rule 9: %q: the first %d of Along(%d, %d): %v, of %v", d, count, n, a, got, all)
					}
				}
				if got := slices.Collect(seq); !slices.Equal(got, all) {
					t.Fatalf("rule 9: %q: Along(%d, %d) again: %v, first %v", d, n, a, got, all)
				}
				needNested(t, seq, all)
			}
		}
	}
}

// needNested: an iterator that is gone through while it is gone through.
func needNested(t *testing.T, seq iter.Seq[int], all []int) {
	t.Helper()
	var outer []int
	for m := range seq {
		outer = append(outer, m)
		if inner := slices.Collect(seq); !slices.Equal(inner, all) {
			t.Fatalf("rule 9: nested: %v, want %v", inner, all)
		}
		firstOf(seq, 1)
	}
	if !slices.Equal(outer, all) {
		t.Fatalf("rule 9: around a nested one: %v, want %v", outer, all)
	}
}

// TestStopped: an iterator that is stopped asks no more.
func TestStopped(t *testing.T) {
	p := parsed(t, "<a><b>x</b>y<c/></a>")
	for n := -1; n < p.Len(); n++ {
		for a := api.Child; a <= api.Self; a++ {
			calls := 0
			p.Along(n, a)(func(int) bool { calls++; return false })
			if calls > 1 {
				t.Errorf("rule 9: Along(%d, %d) goes on behind its stop: %d calls", n, a, calls)
			}
		}
	}
}

// TestAfterwards: iterators made earlier don't hang on later calls, nor on the tree's variable.
func TestAfterwards(t *testing.T) {
	p := parsed(t, chapters)
	seq := p.Along(0, api.Child)
	other := parsed(t, "<a/>")
	p.Events()[0].Number = 9
	p = other
	if got := slices.Collect(seq); !slices.Equal(got, []int{1, 2, 3}) {
		t.Errorf("P9.4: later: %v", got)
	}
	if got := slices.Collect(p.Along(0, api.Child)); len(got) != 0 {
		t.Errorf("P9.4: of another tree: %v", got)
	}
}

func TestNodes(t *testing.T) {
	p := parsed(t, chapters)
	if p.Len() != 4 {
		t.Errorf("P9.3: Len() = %d", p.Len())
	}
	form := "<a x=\"1\">b<c></c>d</a>"
	for _, r := range []struct {
		n, parent   int
		value, form string
		one, two    api.Errno // of Node and Parent; of Value and Print
	}{
		{-1, 0, "bd", form, api.ErrRange, api.OK},
		{0, -1, "bd", form, api.OK, api.OK},
		{1, 0, "b", "b", api.OK, api.OK},
		{2, 0, "", "<c></c>", api.OK, api.OK},
		{3, 0, "d", "d", api.OK, api.OK},
	} {
		if m, e := p.Parent(r.n); m != r.parent || e != r.one {
			t.Errorf("P9.3: Parent(%d) = %d, %d", r.n, m, e)
		}
		if s, e := p.Value(r.n); s != r.value || e != r.two {
			t.Errorf("P9.5: Value(%d) = %q, %d", r.n, s, e)
		}
		if s, e := p.Print(r.n); s != r.form || e != r.two {
			t.Errorf("P9.5: Print(%d) = %q, %d", r.n, s, e)
		}
	}
	for n, want := range []api.Event{
		{Kind: api.Open, Number: 0, Depth: 1, Name: "a", Attrs: []api.Attr{{Name: "x", Value: "1"}}, From: 0, To: 9},
		{Kind: api.Text, Number: 1, Depth: 2, Text: "b", From: 9, To: 14},
		{Kind: api.Open, Number: 2, Depth: 2, Name: "c", From: 10, To: 14},
		{Kind: api.Text, Number: 3, Depth: 2, Text: "d", From: 14, To: 19},
	} {
		if got, e := p.Node(n); !reflect.DeepEqual(got, want) || e != api.OK {
			t.Errorf("P9.3: Node(%d) = %+v, %d, want %+v", n, got, e, want)
		}
	}
	if got, e := p.Node(-1); !reflect.DeepEqual(got, api.Event{}) || e != api.ErrRange {
		t.Errorf("P9.3: Node(-1) = %+v, %d", got, e)
	}
}

func TestOutside(t *testing.T) {
	for _, d := range documents() {
		p := parsed(t, d)
		for _, n := range noNumbers(p.Len()) {
			needErrors(t, p, n, api.ErrRange)
		}
	}
}

// needErrors: each call at a node answers that error beside zero values.
func needErrors(t *testing.T, p *tree.Tree, n int, want api.Errno) {
	t.Helper()
	event, e1 := p.Node(n)
	parent, e2 := p.Parent(n)
	value, e3 := p.Value(n)
	form, e4 := p.Print(n)
	if e1 != want || e2 != want || e3 != want || e4 != want {
		t.Errorf("P9.3, P9.5: at %d: %d %d %d %d, want %d", n, e1, e2, e3, e4, want)
	}
	if !reflect.DeepEqual(event, api.Event{}) || parent != 0 || value != "" || form != "" {
		t.Errorf("rule 2: at %d: %+v %d %q %q", n, event, parent, value, form)
	}
}

func TestNil(t *testing.T) {
	var p *tree.Tree
	if p.Len() != 0 || len(p.Events()) != 0 {
		t.Errorf("P9.2, P9.3: of a nil tree: %d, %v", p.Len(), p.Events())
	}
	for _, n := range append(noNumbers(0), -1, 1, 2) {
		needErrors(t, p, n, api.ErrNil)
		for _, a := range append(noAxes(), api.Child, api.Descendant, api.OrSelf, api.Self) {
			seq := p.Along(n, a)
			if seq == nil {
				t.Fatalf("P9.4: of a nil tree Along(%d, %d) is nil", n, a)
			}
			if got := slices.Collect(seq); len(got) != 0 {
				t.Errorf("P9.4: of a nil tree Along(%d, %d) = %v", n, a, got)
			}
		}
	}
}

// TestOtherMade: rule 6: of a tree that no maker answered the calls end.
func TestOtherMade(t *testing.T) {
	p := &tree.Tree{}
	p.Len()
	p.Events()
	for _, n := range append(noNumbers(0), -1, 1, 2) {
		p.Node(n)
		p.Parent(n)
		p.Value(n)
		p.Print(n)
		for _, a := range append(noAxes(), api.Child, api.Descendant, api.OrSelf, api.Self) {
			firstOf(p.Along(n, a), 9)
		}
	}
}

// needFault: P9.1: Parse answers this fault, and no tree.
func needFault(t *testing.T, d string, depth int, why api.Errno, at int) {
	t.Helper()
	p, err := tree.Parse([]byte(d), depth)
	var f *api.Fault
	if p != nil || !errors.As(err, &f) || f.Why != why || f.At.Byte != at || !errors.Is(err, why) {
		t.Errorf("P9.1: Parse(%q, %d): %v, %v, want %d at %d", d, depth, p, err, why, at)
	}
}

func TestParse(t *testing.T) {
	// The chapter's examples.
	needFault(t, "<a>", 9, api.ErrDocument, 3)
	needFault(t, "<a><b/></a>", 1, api.ErrDepth, 6)
	// Others.
	needFault(t, "", 9, api.ErrDocument, 0)
	needFault(t, "<a/>", 0, api.ErrDepth, 3)
	needFault(t, "<a>x<b/></a>", 1, api.ErrDepth, 7)
	needFault(t, "<a></b>", 9, api.ErrDocument, 5)
	needFault(t, "<a/><a/>", 9, api.ErrDocument, 5)
	needFault(t, "<a/>x", 9, api.ErrDocument, 4)
	needFault(t, "<a>\xFF</a>", 9, api.ErrDocument, 3)
	needFault(t, "<a x='' x=''/>", 9, api.ErrDocument, 9)
	for _, depth := range []int{-1, -2, math.MinInt} {
		for _, d := range []string{"", "<a/>", "<a>", chapters} {
			p, err := tree.Parse([]byte(d), depth)
			if e, ok := err.(api.Errno); p != nil || !ok || e != api.ErrRange {
				t.Errorf("P9.1: Parse(%q, %d): %v, %v", d, depth, p, err)
			}
		}
	}
	for _, depth := range []int{2, 3, api.MaxDepth, api.MaxDepth + 1, math.MaxInt} {
		p, err := tree.Parse([]byte(chapters), depth)
		if err != nil || !reflect.DeepEqual(p.Events(), eventsOf(t, chapters)) {
			t.Errorf("P9.1: Parse(%q, %d): %v", chapters, depth, err)
		}
	}
	if p, err := tree.Parse(nil, 9); p != nil || err == nil {
		t.Errorf("P9.1: Parse of nil: %v, %v", p, err)
	}
}

// TestParsed: the tree of the events that layer 7 answers, their places too.
func TestParsed(t *testing.T) {
	for _, d := range documents() {
		p := parsed(t, d)
		if got, want := p.Events(), eventsOf(t, d); !reflect.DeepEqual(got, want) {
			t.Errorf("P9.1: %q: %+v, want %+v", d, got, want)
		}
	}
}

// turn is a change of the events of turned by which they aren't those of a document any more.
type turn struct {
	what string
	make func(l []api.Event) []api.Event
}

// turned: its events are 0 Open a, 1 Text b, 2 Open c, 3 Close c, 4 Text d, 5 Open e, 6 Text f, 7 Close e, 8 Close a.
const turned = "<a p='1' q='2'>b<c/>d<e>f</e></a>"

func turns() []turn {
	type events = []api.Event
	return []turn{
		{"none at all", func(l events) events { return nil }},
		{"none, but with room", func(l events) events { return l[:0] }},
		{"an Open alone", func(l events) events { return l[:1] }},
		{"a Text alone", func(l events) events { return l[1:2] }},
		{"a Close alone", func(l events) events { return l[8:] }},
		{"no Close of the root", func(l events) events { return l[:8] }},
		{"no Close in it", func(l events) events { return slices.Delete(l, 7, 8) }},
		{"no Close of an empty one", func(l events) events { return slices.Delete(l, 3, 4) }},
		{"a Close too many", func(l events) events { return append(l, l[8]) }},
		{"a Close too many in it", func(l events) events { return slices.Insert(l, 4, l[3]) }},
		{"a Close ahead", func(l events) events { return slices.Insert(l, 0, l[8]) }},
		{"no Open ahead", func(l events) events { return l[1:] }},
		{"a Text ahead", func(l events) events {
			return slices.Insert(l, 0, api.Event{Kind: api.Text, Depth: 1, Text: "x"})
		}},
		{"a Text behind", func(l events) events {
			return append(l, api.Event{Kind: api.Text, Number: 6, Depth: 1, Text: "x"})
		}},
		{"an element behind", func(l events) events {
			return append(l, api.Event{Kind: api.Open, Number: 6, Depth: 1, Name: "a"}, api.Event{Kind: api.Close, Number: 6, Depth: 1, Name: "a"})
		}},
		{"all of it twice", func(l events) events { return append(l, l...) }},
		{"the first one with the number 1", func(l events) events {
			for i := range l {
				l[i].Number++
			}
			return l
		}},
		{"the first one with the depth 2", func(l events) events {
			for i := range l {
				l[i].Depth++
			}
			return l
		}},
		{"the first one with the depth 0", func(l events) events {
			for i := range l {
				l[i].Depth--
			}
			return l
		}},
		{"two Texts, one behind the other", func(l events) events {
			l[2] = api.Event{Kind: api.Text, Number: 2, Depth: 2, Text: "x"}
			return slices.Delete(l, 3, 4)
		}},
		{"the same Text twice", func(l events) events { return slices.Insert(l, 1, l[1]) }},
		{"Closes in the wrong order", func(l events) events { l[7], l[8] = l[8], l[7]; return l }},
		{"names of Closes about", func(l events) events { l[7].Name, l[8].Name = l[8].Name, l[7].Name; return l }},
		{"numbers about", func(l events) events { l[1].Number, l[2].Number = 2, 1; return l }},
		{"an element's number left out", func(l events) events {
			for i := 2; i < 8; i++ {
				l[i].Number++
			}
			return l
		}},
		{"an element's number twice", func(l events) events {
			for i := 2; i < 8; i++ {
				l[i].Number--
			}
			return l
		}},
		{"an element too deep", func(l events) events { l[2].Depth++; l[3].Depth++; return l }},
		{"an element not deep enough", func(l events) events { l[2].Depth--; l[3].Depth--; return l }},
		{"names that are none, in both tags", func(l events) events { l[2].Name, l[3].Name = "", ""; return l }},
		{"attributes about", func(l events) events { l[0].Attrs[0], l[0].Attrs[1] = l[0].Attrs[1], l[0].Attrs[0]; return l }},
		{"an attribute twice", func(l events) events { l[0].Attrs = append(l[0].Attrs, l[0].Attrs[1]); return l }},
		{"an attribute too little at the end", func(l events) events { l[0].Attrs = append(l[0].Attrs, api.Attr{Name: "a"}); return l }},
		{"attributes of a Text", func(l events) events { l[1].Attrs = l[0].Attrs; return l }},
		{"attributes of a Close", func(l events) events { l[3].Attrs = l[0].Attrs; return l }},
		{"attributes of the last Close, as they were", func(l events) events { l[8].Attrs = l[0].Attrs; return l }},
		{"an attribute of nothing, of a Text", func(l events) events { l[1].Attrs = make([]api.Attr, 1); return l }},
		{"a Text's name", func(l events) events { l[1].Name = "a"; return l }},
		{"an Open's text", func(l events) events { l[2].Text = "x"; return l }},
		{"a Close's text", func(l events) events { l[3].Text = "x"; return l }},
		{"the last Close's text", func(l events) events { l[8].Text = "x"; return l }},
	}
}

// needShape: P9.2: Build answers ErrShape, and no tree.
func needShape(t *testing.T, what string, events []api.Event) {
	t.Helper()
	if p, e := tree.Build(events); p != nil || e != api.ErrShape {
		t.Errorf("P9.2: %s: %v, %d, want ErrShape", what, p, e)
	}
}

// needBuilt: P9.2: Build answers a tree of just these events.
func needBuilt(t *testing.T, what string, events []api.Event) *tree.Tree {
	t.Helper()
	p, e := tree.Build(events)
	if e != api.OK || p == nil {
		t.Fatalf("P9.2: %s: %d", what, e)
	}
	if got := p.Events(); !reflect.DeepEqual(got, events) {
		t.Fatalf("P9.2: %s: %+v, want %+v", what, got, events)
	}
	return p
}

func TestShape(t *testing.T) {
	needBuilt(t, "unchanged", eventsOf(t, turned))
	for _, turn := range turns() {
		needShape(t, turn.what, turn.make(eventsOf(t, turned)))
	}
	// The chapter's examples.
	events := eventsOf(t, chapters)
	needShape(t, "no events", nil)
	needShape(t, "an Open alone", events[:1])
	events[4].Text = ""
	needShape(t, "node 3's Text empty", events)
}

// TestNumbers: any number and any depth but its own, any kind that is none, of each event.
func TestNumbers(t *testing.T) {
	l := eventsOf(t, turned)
	for i, e := range l {
		for _, x := range []int{math.MinInt, math.MinInt32, -2, -1, 0, 1, 2, 3, 4, 5, 6, 7, 8, 9, 256, math.MaxInt32, math.MaxInt} {
			if x != e.Number {
				l[i].Number = x
				needShape(t, "another number", l)
			}
			l[i] = e
			if x != e.Depth {
				l[i].Depth = x
				needShape(t, "another depth", l)
			}
			l[i] = e
			if x != int(e.Kind) {
				l[i].Kind = api.EventKind(x)
				needShape(t, "another kind", l)
			}
			l[i] = e
		}
	}
	needBuilt(t, "as it was", l)
}

func wrongNames() []string {
	return []string{"", "1", "-a", "a b", "a\x00", "\xFF", "a\xFF", "a\xC3", ":", "a:b", "a ", " a", "×", "<", "\u0300", "·a", "\U000F0000", "a\U000F0000", "\uFFFE", "\xED\xA0\x80", "\xC1\xA1"}
}

func rightNames() []string {
	return []string{"b", "Z", "_", "é", "é-1", "a.·", "\uFFFD", "\U00010000", "\U000EFFFF", "a\u0300\u203F", "\u200C", "text", strings.Repeat("é", 5000)}
}

// TestNames: of elements in both tags, of a Close alone, of attributes.
func TestNames(t *testing.T) {
	for _, name := range wrongNames() {
		l := eventsOf(t, turned)
		l[2].Name, l[3].Name = name, name
		needShape(t, "an element named "+name, l)
		l = eventsOf(t, turned)
		l[0].Name, l[8].Name = name, name
		needShape(t, "a root named "+name, l)
		for _, attrs := range [][]api.Attr{{{Name: name}}, {{Name: name}, {Name: "\U000EFFFF\U000EFFFF"}}, {{Name: "A"}, {Name: name, Value: "x"}}} {
			l = eventsOf(t, turned)
			l[2].Attrs = attrs
			needShape(t, "an attribute named "+name, l)
		}
	}
	for _, name := range rightNames() {
		l := eventsOf(t, turned)
		l[2].Name = name
		needShape(t, "a start tag alone named "+name, l)
		l[3].Name = name
		needBuilt(t, "an element named "+name, l)
		l[2].Name = "c"
		needShape(t, "an end tag alone named "+name, l)
		l = eventsOf(t, turned)
		l[2].Attrs = []api.Attr{{Name: name}}
		needBuilt(t, "an attribute named "+name, l)
		l[2].Attrs = []api.Attr{{Name: name}, {Name: name}}
		needShape(t, "two attributes named "+name, l)
	}
}

// TestAttrOrder: names by their characters, each greater than the one ahead.
func TestAttrOrder(t *testing.T) {
	rising := []string{"A", "B", "_", "a", "a-", "a.", "a0", "aa", "aé", "b", "é", "éa", "\uD7FF", "\uFFFD", "\U00010000", "\U000EFFFF"}
	l := eventsOf(t, turned)
	for i, one := range rising {
		for k, two := range rising {
			l[2].Attrs = []api.Attr{{Name: one, Value: "2"}, {Name: two, Value: "1"}}
			if i < k {
				needBuilt(t, one+" ahead of "+two, l)
			} else {
				needShape(t, one+" ahead of "+two, l)
			}
			l[2].Attrs = []api.Attr{{Name: "A"}, {Name: one}, {Name: two}, {Name: "\U000EFFFFz"}}
			if 0 < i && i < k {
				needBuilt(t, one+" ahead of "+two+", among others", l)
			} else {
				needShape(t, one+" ahead of "+two+", among others", l)
			}
		}
	}
	l[2].Attrs = nil
	for _, name := range rising {
		l[2].Attrs = append(l[2].Attrs, api.Attr{Name: name, Value: name})
		needBuilt(t, "all up to "+name, l)
	}
}

// TestTexts: of Texts and of values: allowed characters; a value may be empty.
func TestTexts(t *testing.T) {
	l := eventsOf(t, turned)
	for _, s := range []string{"\x00", "x\x00", "\x1F", "\x0B", "\x0C", "\xFF", "x\xC3", "\xC3", "\x80", "\uFFFE", "x\uFFFF", "\xED\xA0\x80", "\xC0\x80", "\xF4\x90\x80\x80", "\x08x"} {
		for _, i := range []int{1, 4, 6} {
			was := l[i].Text
			l[i].Text = s
			needShape(t, "a wrong Text", l)
			l[i].Text = was
		}
		for i := range l[0].Attrs {
			was := l[0].Attrs[i].Value
			l[0].Attrs[i].Value = s
			needShape(t, "a wrong value", l)
			l[0].Attrs[i].Value = was
		}
	}
	for _, s := range []string{"x", " ", "\t\n\r", "é", "\uFFFD", "\U0010FFFF", "\x7F", "\uD7FF\uE000", "]]>", "&<>\"'", "<a>", "\u0085"} {
		l[4].Text, l[0].Attrs[1].Value = s, s
		needBuilt(t, "a Text and a value", l)
	}
	l[0].Attrs[0].Value, l[0].Attrs[1].Value = "", ""
	needBuilt(t, "empty values", l)
	for _, i := range []int{1, 4, 6} {
		was := l[i].Text
		l[i].Text = ""
		needShape(t, "an empty Text", l)
		l[i].Text = was
	}
}

// TestPlaces: From and To may be anything, and stay as they are.
func TestPlaces(t *testing.T) {
	l := eventsOf(t, turned)
	some := []int{0, -1, 7, math.MinInt, math.MaxInt}
	for i := range l {
		l[i].From, l[i].To = some[i%5], some[(i*3+1)%5]
	}
	p := needBuilt(t, "any places", l)
	for n, i := range []int{0, 1, 2, 4, 5, 6} {
		if got, e := p.Node(n); e != api.OK || !reflect.DeepEqual(got, l[i]) {
			t.Errorf("P9.3: Node(%d) = %+v, %d, want %+v", n, got, e, l[i])
		}
	}
	for i := range l {
		l[i].From, l[i].To = 0, 0
		needBuilt(t, "no places", l)
	}
}

// TestEmptyLists: rule 4: nil and empty are one.
func TestEmptyLists(t *testing.T) {
	l := eventsOf(t, turned)
	for i := range l {
		if len(l[i].Attrs) == 0 {
			l[i].Attrs = make([]api.Attr, 0, 3)
		}
	}
	p, e := tree.Build(l)
	if e != api.OK || p.Len() != 6 {
		t.Fatalf("rule 4: empty lists: %d", e)
	}
	for i, got := range p.Events() {
		if len(got.Attrs) != len(l[i].Attrs) {
			t.Errorf("rule 4: %+v, want %+v", got, l[i])
		}
		if i > 0 && cap(got.Attrs) > 0 {
			spare := append(got.Attrs, api.Attr{Name: "spoilt"})
			if l[i].Attrs[:1][0] == spare[0] {
				t.Error("rule 5: spare room is shared")
			}
		}
	}
}

// spoil: writes over all that events hold.
func spoil(events []api.Event) {
	for i := range events {
		for k := range events[i].Attrs[:cap(events[i].Attrs)] {
			events[i].Attrs[:cap(events[i].Attrs)][k] = api.Attr{Name: "spoilt", Value: "spoilt"}
		}
		events[i] = api.Event{Kind: api.Close, Number: -7, Depth: -7, Name: "spoilt", Text: "spoilt"}
	}
}

// TestMemory: rule 5: what was handed in and what was answered is written over, spare room too.
func TestMemory(t *testing.T) {
	for _, d := range documents() {
		want := eventsOf(t, d)
		l := slices.Grow(eventsOf(t, d), 9)
		p, e := tree.Build(l)
		if e != api.OK {
			t.Fatalf("P9.2: %q: %d", d, e)
		}
		if !reflect.DeepEqual(l, want) || slices.ContainsFunc(l[:cap(l)][len(l):], func(x api.Event) bool { return !reflect.DeepEqual(x, api.Event{}) }) {
			t.Fatalf("rule 5: %q: Build changes what it is given", d)
		}
		spoil(l[:cap(l)])
		for range 2 {
			got := p.Events()
			if !reflect.DeepEqual(got, want) {
				t.Fatalf("rule 5: %q: %+v, want %+v", d, got, want)
			}
			for n := range p.Len() {
				x, _ := p.Node(n)
				spoil([]api.Event{x})
			}
			if !reflect.DeepEqual(got, want) {
				t.Fatalf("rule 5: %q: what Node and Events answer share memory", d)
			}
			spoil(got[:cap(got)])
		}
		if s, _ := p.Print(0); s != printed(want) {
			t.Fatalf("rule 5: %q: Print(0) = %q, want %q", d, s, printed(want))
		}
	}
}

// TestParseMemory: the bytes are neither changed nor kept.
func TestParseMemory(t *testing.T) {
	for _, d := range documents() {
		b := append(make([]byte, 0, len(d)+9), d...)
		p, err := tree.Parse(b, api.MaxDepth)
		if err != nil || string(b) != d {
			t.Fatalf("rule 5: %q: %v", d, err)
		}
		all := b[:cap(b)]
		for i := range all {
			all[i] = '<'
		}
		events := p.Events()
		if !reflect.DeepEqual(events, eventsOf(t, d)) {
			t.Fatalf("rule 5: %q: the tree hangs on the bytes", d)
		}
		spoil(events)
		if !reflect.DeepEqual(p.Events(), eventsOf(t, d)) {
			t.Fatalf("rule 5: %q: the tree hangs on what was answered", d)
		}
	}
}

// TestAttrsApart: no two lists of one answer share memory, spare room included.
func TestAttrsApart(t *testing.T) {
	p := parsed(t, "<a x='1' y='2' z='3'><b x='4'/><c y='5' z='6'/></a>")
	got := p.Events()
	for i := range got {
		if len(got[i].Attrs) > 0 {
			_ = append(got[i].Attrs, api.Attr{Name: "spoilt"}, api.Attr{Name: "spoilt"})
		}
	}
	_ = append(got[:1], api.Event{})
	if !reflect.DeepEqual(got[2:], p.Events()[2:]) {
		t.Errorf("rule 5: %+v", got)
	}
	one, two := p.Events(), p.Events()
	spoil(one)
	if !reflect.DeepEqual(two, eventsOf(t, "<a x='1' y='2' z='3'><b x='4'/><c y='5' z='6'/></a>")) {
		t.Errorf("rule 5: two answers share memory: %+v", two)
	}
}

// TestCharacters: string values and forms of what is escaped, and of what came in pieces.
func TestCharacters(t *testing.T) {
	p := parsed(t, "<a é='&lt;&#9;\"'>x<!-- y -->&#xE9;<![CDATA[<]]><b>&#13;\r\n</b>&amp;]]&gt;</a>")
	for _, r := range []struct {
		n           int
		value, form string
	}{
		{-1, "xé<\r\n&]]>", "<a é=\"&lt;&#x9;&quot;\">xé&lt;<b>&#xD;\n</b>&amp;]]&gt;</a>"},
		{0, "xé<\r\n&]]>", "<a é=\"&lt;&#x9;&quot;\">xé&lt;<b>&#xD;\n</b>&amp;]]&gt;</a>"},
		{1, "xé<", "xé&lt;"}, {2, "\r\n", "<b>&#xD;\n</b>"}, {3, "\r\n", "&#xD;\n"}, {4, "&]]>", "&amp;]]&gt;"},
	} {
		if s, e := p.Value(r.n); s != r.value || e != api.OK {
			t.Errorf("P9.5: Value(%d) = %q, %d, want %q", r.n, s, e, r.value)
		}
		if s, e := p.Print(r.n); s != r.form || e != api.OK {
			t.Errorf("P9.5: Print(%d) = %q, %d, want %q", r.n, s, e, r.form)
		}
	}
}

// within: what is tried ends in a minute.
func within(t *testing.T, try func()) {
	t.Helper()
	done := make(chan struct{})
	go func() {
		defer close(done)
		try()
	}()
	select {
	case <-done:
	case <-time.After(time.Minute):
		t.Fatal("P1: it doesn't end in a minute")
	}
}

// TestDeep: as deep as may be, by Parse; by Build the limit doesn't hold.
func TestDeep(t *testing.T) {
	within(t, func() {
		const deep = api.MaxDepth
		d := strings.Repeat("<a>", deep) + "x" + strings.Repeat("</a>", deep)
		p, err := tree.Parse([]byte(d), math.MaxInt)
		if err != nil || p.Len() != deep+1 {
			t.Errorf("P9.1: %d open elements: %v", deep, err)
			return
		}
		for n := range deep + 1 {
			m, e := p.Parent(n)
			children := slices.Collect(p.Along(n-1, api.Child))
			if m != n-1 || e != api.OK || !slices.Equal(children, []int{n}) {
				t.Errorf("P9.3, P9.4: Parent(%d) = %d, %d; in it %v", n, m, e, children)
				return
			}
		}
		if s, e := p.Value(0); s != "x" || e != api.OK {
			t.Errorf("P9.5: %q, %d", s, e)
		}
		if s, e := p.Print(deep - 1); s != "<a>x</a>" || e != api.OK {
			t.Errorf("P9.5: %q, %d", s, e)
		}
		if s, e := p.Print(-1); s != d || e != api.OK {
			t.Errorf("P9.5: %d bytes, %d", len(s), e)
		}
		needDeeper(t, deep+5)
	})
}

// needDeeper: events of more open elements than MaxDepth are those of a document.
func needDeeper(t *testing.T, deep int) {
	var events []api.Event
	for n := range deep {
		events = append(events, api.Event{Kind: api.Open, Number: n, Depth: n + 1, Name: "a"})
	}
	for n := deep - 1; n >= 0; n-- {
		events = append(events, api.Event{Kind: api.Close, Number: n, Depth: n + 1, Name: "a"})
	}
	p, e := tree.Build(events)
	if e != api.OK || p.Len() != deep {
		t.Errorf("P9.2: %d open elements: %d", deep, e)
	}
}

// TestWide: many nodes right in one: each is found without going through the others.
func TestWide(t *testing.T) {
	within(t, func() {
		const wide = 200000
		d := "<a>" + strings.Repeat("x<b y='z'/>", wide) + "</a>"
		p, err := tree.Parse([]byte(d), 2)
		if err != nil || p.Len() != 2*wide+1 {
			t.Errorf("P9.1: %d nodes: %v", 2*wide+1, err)
			return
		}
		want := 1
		for m := range p.Along(0, api.Child) {
			parent, _ := p.Parent(m)
			value, _ := p.Value(m)
			form, _ := p.Print(m)
			if m%2 == 1 && (value != "x" || form != "x") || m%2 == 0 && (value != "" || form != "<b y=\"z\"></b>") || m != want || parent != 0 {
				t.Errorf("P9.3 to P9.5: %d: %d %q %q", m, parent, value, form)
				return
			}
			want++
		}
		if s, _ := p.Value(-1); s != strings.Repeat("x", wide) {
			t.Errorf("P9.5: %d bytes", len(s))
		}
		if q, e := tree.Build(p.Events()); e != api.OK || !reflect.DeepEqual(q.Events(), p.Events()) {
			t.Errorf("P9.6: %d", e)
		}
	})
}
