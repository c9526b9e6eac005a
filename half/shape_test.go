package half_test

import (
	"math"
	"slices"
	"strings"
	"testing"

	"gimlet/api"
	"gimlet/ask"
	"gimlet/chars"
	"gimlet/half"
)

// What follows tries events that are no beginning's, paths and expressions that are none, and numbers of no nodes.

// turned: its events are 0 Open a, 1 Text b, 2 Open c, 3 Close c, 4 Text d, 5 Open e, 6 Text f, 7 Close e, 8 Close a.
const turned = "<a p='1' q='2'>b<c/>d<e>f</e></a>"

// isBegun: they are a beginning's, by layer 9's words, one event behind the other.
func isBegun(events []api.Event) bool {
	var open []api.Event
	nodes := 0
	for i, e := range events {
		deep := len(open)
		if i > 0 && deep == 0 {
			return false // the root element is closed
		}
		switch {
		case e.Kind == api.Open:
			if e.Number != nodes || e.Depth != deep+1 || !chars.Name(e.Name) || e.Text != "" || !areAttrs(e.Attrs) {
				return false
			}
			open = append(open, e)
			nodes++
		case e.Kind == api.Text && deep > 0:
			if events[i-1].Kind == api.Text || e.Number != nodes || e.Depth != deep+1 || e.Text == "" || !chars.Texts(e.Text) || e.Name != "" || len(e.Attrs) > 0 {
				return false
			}
			nodes++
		case e.Kind == api.Close && deep > 0:
			was := open[deep-1]
			if e.Number != was.Number || e.Depth != was.Depth || e.Name != was.Name || e.Text != "" || len(e.Attrs) > 0 {
				return false
			}
			open = open[:deep-1]
		default:
			return false
		}
	}
	return true
}

func areAttrs(list []api.Attr) bool {
	for i, a := range list {
		if !chars.Name(a.Name) || !chars.Texts(a.Value) || i > 0 && slices.Compare([]rune(list[i-1].Name), []rune(a.Name)) >= 0 {
			return false
		}
	}
	return true
}

// needAnswers: all calls answer ErrShape and nothing beside it, or OK.
func needAnswers(t *testing.T, what string, events []api.Event, p api.Path, x api.Expr, isGood bool) {
	t.Helper()
	want := api.ErrShape
	if isGood {
		want = api.OK
	}
	list, e := half.Verdicts(events, p)
	if e != want || !isGood && len(list) > 0 {
		t.Errorf("P15.2: %s: %v, %d, want %d", what, list, e, want)
	}
	items, e := half.Told(events, p)
	if e != want || !isGood && len(items) > 0 {
		t.Errorf("P15.3: %s: %v, %d, want %d", what, items, e, want)
	}
	v, e := half.Holds(events, -1, x)
	if e != want || !isGood && v != 0 {
		t.Errorf("P15.1: %s: %d, %d, want %d", what, v, e, want)
	}
}

// needByWords: of any events; whether they are a beginning's.
func needByWords(t *testing.T, what string, events []api.Event) bool {
	t.Helper()
	is := isBegun(events)
	p := steps(api.Step{Axis: api.OrSelf, Test: api.AnyNode})
	needAnswers(t, what, events, p, there(here()), is)
	return is
}

// needWrongFrom: just the beginnings up to that event are some.
func needWrongFrom(t *testing.T, what string, events []api.Event, at int) {
	t.Helper()
	for many := range len(events) + 1 {
		if is := needByWords(t, what, events[:many]); is != (many <= at) {
			t.Errorf("%s: %d events: %v", what, many, is)
		}
	}
}

// wrong is a change of the events of turned, the first wrong one of which is number at.
type wrong struct {
	what string
	at   int
	make func(l []api.Event) []api.Event
}

func wrongs() []wrong {
	type events = []api.Event
	text := func(number, depth int) api.Event {
		return api.Event{Kind: api.Text, Number: number, Depth: depth, Text: "x"}
	}
	shift := func(l events, from, by int) events {
		for i := from; i < 8; i++ {
			l[i].Number += by
		}
		return l
	}
	return []wrong{
		{"a Close ahead", 0, func(l events) events { return slices.Insert(l, 0, l[8]) }},
		{"no Open ahead", 0, func(l events) events { return l[1:] }},
		{"a Text ahead", 0, func(l events) events { return slices.Insert(l, 0, text(0, 1)) }},
		{"a Close behind the end", 9, func(l events) events { return append(l, l[8]) }},
		{"a Text behind the end", 9, func(l events) events { return append(l, text(6, 1)) }},
		{"a Text in nothing behind the end", 9, func(l events) events { return append(l, text(6, 2)) }},
		{"an element behind the end", 9, func(l events) events {
			return append(l, api.Event{Kind: api.Open, Number: 6, Depth: 1, Name: "a"}, api.Event{Kind: api.Close, Number: 6, Depth: 1, Name: "a"})
		}},
		{"the root once more behind the end", 9, func(l events) events { return append(l, l[0]) }},
		{"a kind that is none behind the end", 9, func(l events) events { return append(l, api.Event{Kind: 3}) }},
		{"all of it twice", 9, func(l events) events { return append(l, l...) }},
		{"no Close in it", 7, func(l events) events { return slices.Delete(l, 7, 8) }},
		{"no Close of an empty one", 3, func(l events) events { return slices.Delete(l, 3, 4) }},
		{"no Open in it", 2, func(l events) events { return slices.Delete(l, 2, 3) }},
		{"a Close too many in it", 4, func(l events) events { return slices.Insert(l, 4, l[3]) }},
		{"the number 1 first", 0, func(l events) events { l[0].Number, l[8].Number = 1, 1; return shift(l, 1, 1) }},
		{"the number -1 first", 0, func(l events) events { l[0].Number, l[8].Number = -1, -1; return shift(l, 1, -1) }},
		{"the depth 2 first", 0, func(l events) events {
			for i := range l {
				l[i].Depth++
			}
			return l
		}},
		{"the depth 0 first", 0, func(l events) events {
			for i := range l {
				l[i].Depth--
			}
			return l
		}},
		{"two Texts, one behind the other", 2, func(l events) events { l[2] = text(2, 2); return slices.Delete(l, 3, 4) }},
		{"the same Text twice", 2, func(l events) events { return slices.Insert(l, 1, l[1]) }},
		{"Closes in the wrong order", 7, func(l events) events { l[7], l[8] = l[8], l[7]; return l }},
		{"names of Closes about", 7, func(l events) events { l[7].Name, l[8].Name = l[8].Name, l[7].Name; return l }},
		{"numbers about", 1, func(l events) events { l[1].Number, l[2].Number = 2, 1; return l }},
		{"a number left out", 2, func(l events) events { return shift(l, 2, 1) }},
		{"a number twice", 2, func(l events) events { return shift(l, 2, -1) }},
		{"an element too deep", 2, func(l events) events { l[2].Depth++; l[3].Depth++; return l }},
		{"an element not deep enough", 2, func(l events) events { l[2].Depth--; l[3].Depth--; return l }},
		{"a Text too deep", 4, func(l events) events { l[4].Depth++; return l }},
		{"names that are none", 2, func(l events) events { l[2].Name, l[3].Name = "", ""; return l }},
		{"the root's name none", 0, func(l events) events { l[0].Name, l[8].Name = "1", "1"; return l }},
		{"attributes about", 0, func(l events) events { l[0].Attrs[0], l[0].Attrs[1] = l[0].Attrs[1], l[0].Attrs[0]; return l }},
		{"an attribute twice", 0, func(l events) events { l[0].Attrs = append(l[0].Attrs, l[0].Attrs[1]); return l }},
		{"an attribute whose name is none", 0, func(l events) events { l[0].Attrs[1].Name = "q q"; return l }},
		{"an attribute whose value is none", 2, func(l events) events { l[2].Attrs = []api.Attr{{Name: "z", Value: "\x00"}}; return l }},
		{"an attribute whose value is wrong bytes", 5, func(l events) events { l[5].Attrs = []api.Attr{{Name: "z", Value: "\xFF"}}; return l }},
		{"attributes of a Text", 1, func(l events) events { l[1].Attrs = l[0].Attrs; return l }},
		{"attributes of a Close", 3, func(l events) events { l[3].Attrs = l[0].Attrs; return l }},
		{"attributes of the last Close, as they were", 8, func(l events) events { l[8].Attrs = l[0].Attrs; return l }},
		{"a Text's name", 1, func(l events) events { l[1].Name = "a"; return l }},
		{"an Open's text", 2, func(l events) events { l[2].Text = "x"; return l }},
		{"a Close's text", 3, func(l events) events { l[3].Text = "x"; return l }},
		{"the last Close's text", 8, func(l events) events { l[8].Text = "x"; return l }},
		{"a Text of nothing", 6, func(l events) events { l[6].Text = ""; return l }},
		{"a Text of U+0000", 6, func(l events) events { l[6].Text = "f\x00"; return l }},
		{"a Text of wrong bytes", 4, func(l events) events { l[4].Text = "\xC3"; return l }},
		{"a kind that is none", 4, func(l events) events { l[4].Kind = 3; return l }},
		{"a kind below 0 at the end", 8, func(l events) events { l[8].Kind = -1; return l }},
	}
}

// TestEvents: each way in which an event can be wrong, at each beginning ahead of it and behind.
func TestEvents(t *testing.T) {
	needWrongFrom(t, "unchanged", eventsOf(t, turned), 9)
	for _, w := range wrongs() {
		needWrongFrom(t, w.what, w.make(eventsOf(t, turned)), w.at)
	}
	for _, d := range documents() {
		events := eventsOf(t, d)
		needWrongFrom(t, d, events, len(events))
		needWrongFrom(t, d+" and an Open", append(events, api.Event{Kind: api.Open, Number: nodesOf(events), Depth: 1, Name: "a"}), len(events))
	}
}

// TestNumbersOfEvents: any number, any depth and any kind in the place of each event's own.
func TestNumbersOfEvents(t *testing.T) {
	l := eventsOf(t, turned)
	for i, e := range l {
		for _, x := range []int{math.MinInt, math.MinInt32, -2, -1, 0, 1, 2, 3, 4, 5, 6, 7, 8, 9, 256, math.MaxInt32, math.MaxInt} {
			for field := range 3 {
				switch field {
				case 0:
					l[i].Number = x
				case 1:
					l[i].Depth = x
				case 2:
					l[i].Kind = api.EventKind(x)
				}
				if l[i].Number != e.Number || l[i].Depth != e.Depth || l[i].Kind != e.Kind {
					needWrongFrom(t, "another number, depth or kind", l, i)
				}
				l[i] = e
			}
		}
	}
}

// TestAllShortEvents: all lists of up to three of these, numbers, depths and names being any of a few.
func TestAllShortEvents(t *testing.T) {
	t.Parallel()
	some := []api.Event{{Kind: 3, Depth: 1, Name: "a"}}
	for number := range 3 {
		for depth := 1; depth < 4; depth++ {
			some = append(some, api.Event{Kind: api.Text, Number: number, Depth: depth, Text: "x"})
			for _, name := range []string{"a", "b"} {
				e := api.Event{Kind: api.Open, Number: number, Depth: depth, Name: name}
				some = append(some, e)
				e.Kind = api.Close
				some = append(some, e)
			}
		}
	}
	good := 0
	var try func(list []api.Event, left int)
	try = func(list []api.Event, left int) {
		if needByWords(t, formOf(list), list) {
			good++
		}
		for _, e := range some {
			if left > 0 {
				try(append(list[:len(list):len(list)], e), left-1)
			}
		}
	}
	try(nil, 3)
	if good != 1+2+2*4+2*3+4*4 { // of none, of one, of two, of three: behind a Text, behind two Opens
		t.Errorf("P15.2: %d lists are a beginning's", good)
	}
}

// TestTwoChanges: each event of a document is left out, told twice, put in another's place; and then one field of one event is another's.
func TestTwoChanges(t *testing.T) {
	t.Parallel()
	for _, d := range []string{chapters, turned, "<a>b<b>a<c>c</c></b></a>", "<a b='' a='b'><b b='ab'>a</b></a>"} {
		events := eventsOf(t, d)
		for i := range events {
			for _, list := range [][]api.Event{events, slices.Delete(slices.Clone(events), i, i+1), slices.Insert(slices.Clone(events), i, events[i]), events[:i], events[i:]} {
				needByWords(t, d, list)
				needFields(t, d, list)
			}
			for k := range events {
				list := slices.Clone(events)
				list[i], list[k] = list[k], list[i]
				needByWords(t, d, list)
				list[k] = events[k]
				needByWords(t, d, list)
			}
		}
	}
}

// needFields: each event with each field of each other one.
func needFields(t *testing.T, what string, events []api.Event) {
	t.Helper()
	for i := range events {
		for _, other := range events {
			for field := range 8 {
				list := slices.Clone(events)
				e := &list[i]
				switch field {
				case 0:
					e.Kind = other.Kind
				case 1:
					e.Number = other.Number
				case 2:
					e.Depth = other.Depth
				case 3:
					e.Name = other.Name
				case 4:
					e.Attrs = other.Attrs
				case 5:
					e.Text = other.Text
				case 6:
					e.From = other.From
				case 7:
					e.To = other.To
				}
				needByWords(t, what, list)
			}
		}
	}
}

// TestNames: of elements and attributes.
func TestNames(t *testing.T) {
	for _, name := range []string{"", "1", "-a", "a b", "a\x00", "\xFF", "a\xFF", ":", "a:b", "a ", "×", "<", "\u0300", "\U000F0000", "\uFFFE", "a>", "a='b' c"} {
		l := eventsOf(t, turned)
		l[2].Name, l[3].Name = name, name
		needWrongFrom(t, "an element named "+name, l, 2)
		l = eventsOf(t, turned)
		l[5].Attrs = []api.Attr{{Name: name, Value: "x"}}
		needWrongFrom(t, "an attribute named "+name, l, 5)
	}
	for _, name := range []string{"b", "_", "é-1", "a.·", "\uFFFD", "\U000EFFFF", "text", strings.Repeat("é", 5000)} {
		l := eventsOf(t, turned)
		l[2].Name = name
		needWrongFrom(t, "a start tag alone named "+name, l, 3)
		l[3].Name = name
		needWrongFrom(t, "an element named "+name, l, 9)
		l[2].Attrs = []api.Attr{{Name: name}}
		needWrongFrom(t, "an attribute named "+name, l, 9)
		l[2].Attrs = []api.Attr{{Name: name}, {Name: name}}
		needWrongFrom(t, "two attributes named "+name, l, 2)
	}
}

// TestPlaces: From and To may be anything.
func TestPlaces(t *testing.T) {
	some := []int{0, -1, 7, math.MinInt, math.MaxInt}
	for _, d := range documents() {
		l, other := eventsOf(t, d), eventsOf(t, d)
		for i := range other {
			other[i].From, other[i].To = some[i%5], some[(i*3+1)%5]
		}
		for many := range len(l) + 1 {
			for _, q := range queries() {
				p := query(t, q)
				list, _ := half.Verdicts(l[:many], p)
				got, e := half.Verdicts(other[:many], p)
				if e != api.OK || !slices.Equal(got, list) {
					t.Errorf("P15.2: %s of %s: %v, %d, with other places %v", q, d, got, e, list)
				}
				items, _ := half.Told(l[:many], p)
				again, e := half.Told(other[:many], p)
				if e != api.OK || !slices.Equal(again, items) {
					t.Errorf("P15.3: %s of %s: %v, %d, with other places %v", q, d, again, e, items)
				}
				v, _ := half.Holds(l[:many], -1, there(p.Steps...))
				w, e := half.Holds(other[:many], -1, there(p.Steps...))
				if e != api.OK || v != w {
					t.Errorf("P15.1: %s of %s: %d, %d, with other places %d", q, d, v, e, w)
				}
			}
		}
	}
}

// TestEmptyLists: rule 4: nil and empty are one.
func TestEmptyLists(t *testing.T) {
	l := eventsOf(t, turned)
	for i := range l {
		if len(l[i].Attrs) == 0 {
			l[i].Attrs = make([]api.Attr, 0, 3)
		}
	}
	needWrongFrom(t, "empty lists", l, 9)
	needAnswers(t, "no events", []api.Event{}, steps(api.Step{Name: "a", Where: []api.Expr{}}), api.Expr{Op: api.Some, Path: steps(child("a")), Args: []api.Expr{}}, true)
	needAnswers(t, "no events", nil, steps(child("a")), there(child("a")), true)
}

// wrongSteps: those that make a path none, each for one reason.
func wrongSteps() []api.Step {
	return []api.Step{
		{}, child("1"), child("a b"), child("a:b"), child("\xFF"), child("a\xFF"), child("."), child("*"),
		{Test: api.AnyName, Name: "a"}, {Test: api.TextNode, Name: "text"}, {Test: api.AnyNode, Name: "a"},
		{Axis: -1, Name: "a"}, {Axis: 4, Name: "a"}, {Axis: math.MinInt, Name: "a"}, {Test: -1}, {Test: 4}, {Test: 4, Name: "a"}, {Test: math.MaxInt},
	}
}

// wrongExprs: expressions that are none, each for one reason.
func wrongExprs() []api.Expr {
	b := there(child("b"))
	list := []api.Expr{
		{}, {Op: api.Or}, {Op: api.Not}, {Op: api.Some}, {Op: 4}, {Op: -1}, {Op: 4, Path: b.Path}, {Op: math.MaxInt, Args: []api.Expr{b, b}}, allOf(b), oneOf(b), {Op: api.Not, Args: []api.Expr{b, b}},
		{Op: api.And, Args: []api.Expr{b, b}, Path: b.Path}, {Op: api.And, Args: []api.Expr{b, b}, Attr: "a"}, {Op: api.Or, Args: []api.Expr{b, b}, Compare: api.Equal}, {Op: api.Or, Args: []api.Expr{b, b}, Text: "x"}, {Op: api.Not, Args: []api.Expr{b}, Number: 1}, {Op: api.Not, Args: []api.Expr{b}, Path: b.Path},
		allOf(b, api.Expr{}), oneOf(api.Expr{Op: api.Some}, b), no(api.Expr{}), {Op: api.Some, Path: b.Path, Args: []api.Expr{b}}, {Op: api.Some, Attr: "a"}, {Op: api.Some, Args: []api.Expr{b}},
		attr("1"), attr("a b"), attr("*"), attr("\xFF"), attr("@a"),
		withText(b, api.Exists, "x"), withNumber(b, api.Exists, 1), withNumber(b, api.Equal, 1), withText(b, api.LengthIs, "x"), withText(b, 9, ""), withText(b, -1, ""), withText(b, 9, "x"), withNumber(b, math.MaxInt, 7),
		withText(b, api.Equal, `'"`), withText(b, api.Unequal, `"x'`), withText(b, api.Begins, "\xFF"), withText(b, api.Ends, "a\xC3"), withText(b, api.Contains, "\xED\xA0\x80"),
		withNumber(b, api.LengthIs, -1), withNumber(b, api.Longer, api.MaxNumber+1), withNumber(b, api.Shorter, math.MinInt), withNumber(b, api.Longer, math.MaxInt),
		wrapped(api.MaxNested+1, b, no), wrapped(1<<16, b, no), wrapped(1<<16, b, func(x api.Expr) api.Expr { return there(child("a", x)) }), wrapped(1<<16, b, func(x api.Expr) api.Expr { return allOf(x, b) }),
	}
	for _, s := range wrongSteps() {
		list = append(list, there(s), there(child("a"), s), attr("a", s))
	}
	within := []api.Expr{{Op: api.And}, {Op: api.Or}} // a value that holds itself
	within[0].Args, within[1].Args = within, within
	return append(list, within[0])
}

// wrongPaths: of the steps and expressions that are none, at several places.
func wrongPaths() []api.Path {
	list := []api.Path{{}, {Steps: []api.Step{}}}
	for _, s := range wrongSteps() {
		list = append(list, steps(s), steps(child("a"), s), steps(s, child("a")), steps(child("z"), child("z"), s))
	}
	b := there(child("b"))
	for _, x := range wrongExprs() {
		list = append(list, steps(child("a", x)), steps(child("z"), child("z", b, x), child("c")), steps(child("a", there(child("b", x)))), steps(here(no(x))))
	}
	return list
}

// TestShape: paths and expressions that are none, whatever the events and the number.
func TestShape(t *testing.T) {
	events := eventsOf(t, chapters)
	bad := events[1:]
	for many := range len(events) + 1 {
		for _, p := range wrongPaths() {
			if ask.Check(p) != api.ErrShape {
				t.Fatalf("%v is a path", shown(p))
			}
			needAnswers(t, "a path that is none", events[:many], p, api.Expr{}, false)
			needAnswers(t, "events and a path that are none", bad, p, api.Expr{}, false)
		}
		for _, x := range wrongExprs() {
			for _, n := range append(noNumbers(nodesOf(events[:many])), -1, 0) {
				if v, e := half.Holds(events[:many], n, x); v != 0 || e != api.ErrShape {
					t.Errorf("P15.1: %v at %d of %d events: %d, %d", shownExpr(x), n, many, v, e)
				}
			}
		}
	}
}

// noNumbers: some that are of no node of so many, and not -1.
func noNumbers(nodes int) []int {
	return []int{-2, -3, nodes, nodes + 1, nodes + 1000, math.MinInt, math.MaxInt, math.MinInt32, math.MaxInt32}
}

// TestRange: ErrRange behind the last node that was told and below -1; ErrShape ahead of it.
func TestRange(t *testing.T) {
	for _, d := range documents() {
		events := eventsOf(t, d)
		for many := range len(events) + 1 {
			nodes := nodesOf(events[:many])
			for _, n := range noNumbers(nodes) {
				for _, x := range []api.Expr{there(here()), no(there(child("a"))), attr("a")} {
					if v, e := half.Holds(events[:many], n, x); v != 0 || e != api.ErrRange {
						t.Errorf("P15.1: at %d of %d events of %s: %d, %d", n, many, d, v, e)
					}
				}
			}
			for n := -1; n < nodes; n++ {
				if v, e := half.Holds(events[:many], n, there(here())); v != api.True || e != api.OK {
					t.Errorf("P15.1: at %d of %d events of %s: %d, %d", n, many, d, v, e)
				}
			}
		}
	}
	for _, w := range wrongs() {
		events := w.make(eventsOf(t, turned))
		for _, n := range append(noNumbers(6), -1, 0, 5) {
			if v, e := half.Holds(events, n, there(here())); v != 0 || e != api.ErrShape {
				t.Errorf("P15.1: %s, at %d: %d, %d", w.what, n, v, e)
			}
		}
	}
}

// TestNestedJustSo: as deep as may be: an expression's shape is that of a step's predicate, which is nested one deeper.
func TestNestedJustSo(t *testing.T) {
	events := begun(t, "<a>")
	inStep := func(x api.Expr) api.Expr {
		return there(api.Step{Axis: api.OrSelf, Test: api.AnyNode, Where: []api.Expr{x}})
	}
	inAnd := func(x api.Expr) api.Expr { return allOf(there(here()), x) }
	for kind, r := range map[string]struct {
		x      api.Expr
		around func(api.Expr) api.Expr
		want   string // of as many as may be and one less
	}{
		"steps":  {there(here()), inStep, "TT"},
		"nots":   {there(here()), no, "FT"},
		"unsure": {there(child("c")), no, "UU"},
		"ands":   {allOf(there(child("c")), there(here())), inAnd, "UU"},
	} {
		for less := range 2 {
			x := wrapped(api.MaxNested-1-less, r.x, r.around)
			if got, e := half.Holds(events, 0, x); letter(got) != r.want[less:less+1] || e != api.OK {
				t.Errorf("P15.1: %s, %d less: %d, %d", kind, less, got, e)
			}
		}
		x := wrapped(api.MaxNested, r.x, r.around)
		needAnswers(t, kind, events, steps(here(x)), x, false)
	}
}
