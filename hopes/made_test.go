package hopes_test

import (
	"math/rand/v2"
	"slices"
	"strings"
	"testing"

	"gimlet/api"
	"gimlet/ask"
	"gimlet/hopes"
	"gimlet/nest"
	"gimlet/net"
)

// What follows makes paths, expressions, nets, documents and beginnings of their events, and reads the document's words about them plainly.

// eventsOf: of what must be a document.
func eventsOf(t testing.TB, d string) []api.Event {
	t.Helper()
	list, err := nest.Events([]byte(d), api.MaxDepth)
	if err != nil {
		t.Fatalf("%.80q is no document: %v", d, err)
	}
	return list
}

// query: the path of what must be a query.
func query(t testing.TB, q string) api.Path {
	t.Helper()
	p, err := ask.Parse([]byte(q), api.MaxQuery, api.MaxNested)
	if err != nil {
		t.Fatalf("%.80q is no query: %v", q, err)
	}
	return p
}

// netOf: the net of what must be a query's path.
func netOf(t testing.TB, p api.Path) api.Net {
	t.Helper()
	n, e := net.Compile(p)
	if e != api.OK {
		t.Fatalf("%v is no query's path", shown(p))
	}
	return n
}

// started: a new Hopes for what must be a net.
func started(t testing.TB, n api.Net) *hopes.Hopes {
	t.Helper()
	h, e := hopes.New(n)
	if e != api.OK || h == nil {
		t.Fatalf("P18.1: New: %v, %d", h, e)
	}
	return h
}

// shown: a path as a query; of what is none just how many steps it has.
func shown(p api.Path) any {
	if text, e := ask.Print(p); e == api.OK {
		return text
	}
	return len(p.Steps)
}

func steps(list ...api.Step) api.Path { return api.Path{Steps: list} }

func child(name string, where ...api.Expr) api.Step {
	return api.Step{Name: name, Where: where}
}

func here(where ...api.Expr) api.Step {
	return api.Step{Axis: api.Self, Test: api.AnyNode, Where: where}
}

func there(list ...api.Step) api.Expr { return api.Expr{Op: api.Some, Path: steps(list...)} }

func attr(name string, list ...api.Step) api.Expr {
	if len(list) == 0 {
		list = []api.Step{here()}
	}
	return api.Expr{Op: api.Some, Path: steps(list...), Attr: name}
}

func withText(x api.Expr, c api.Compare, text string) api.Expr {
	x.Compare, x.Text = c, text
	return x
}

func withNumber(x api.Expr, c api.Compare, number int) api.Expr {
	x.Compare, x.Number = c, number
	return x
}

func allOf(list ...api.Expr) api.Expr { return api.Expr{Op: api.And, Args: list} }

func oneOf(list ...api.Expr) api.Expr { return api.Expr{Op: api.Or, Args: list} }

func no(x api.Expr) api.Expr { return api.Expr{Op: api.Not, Args: []api.Expr{x}} }

// bareSteps: every axis with every test, of these names.
func bareSteps(names ...string) []api.Step {
	var list []api.Step
	for a := api.Child; a <= api.Self; a++ {
		for _, name := range names {
			list = append(list, api.Step{Axis: a, Name: name})
		}
		for test := api.AnyName; test <= api.AnyNode; test++ {
			list = append(list, api.Step{Axis: a, Test: test})
		}
	}
	return list
}

// comparisons: x with each comparison, of these texts and of the numbers below most.
func comparisons(x api.Expr, most int, texts ...string) []api.Expr {
	list := []api.Expr{x}
	for _, text := range texts {
		for c := api.Equal; c <= api.Contains; c++ {
			list = append(list, withText(x, c, text))
		}
	}
	for number := range most {
		for c := api.LengthIs; c <= api.Shorter; c++ {
			list = append(list, withNumber(x, c, number))
		}
	}
	return list
}

// documents: of many shapes.
func documents() []string {
	return []string{
		"<a/>", "<b></b>", "<a>b</a>", "<a b='b'/>", "<a><b>x</b><c/></a>", "<a><b>y</b><c/></a>",
		"<a><b/><b/></a>", "<a><a><a/></a></a>", "<b>a<a>b</a></b>", "<a>b<b>a<c>c</c></b></a>", "<a><b/>a<b/><c><d/></c>b</a>",
		"<a b='' a='b'><b b='ab'>a<b b='b' c=''>b</b>ab</b><a a=''>b</a></a>",
		"<é a='é'>é<a é='aé'>b</a><é>é\U0001F600</é></é>",
		" <!--c--><a>a<!-- y -->&#98;<![CDATA[<]]>&#13;\r\n<b>&amp;\"'</b></a >\r\n",
		"<r><a><b/></a><a/><c>a<b/>b</c></r>",
		"<a><b><c>a</c></b><b><c>b</c><a b='a'/></b>c<c><b a='b'>ab</b></c></a>",
	}
}

// shorts: all documents of at most so many nodes, of these two names and this text.
func shorts(most int) []string {
	var list []string
	for n := 1; n <= most; n++ {
		for _, in := range contents(n-1, false) {
			for _, tag := range []string{"<a>", "<b a='a'>"} {
				list = append(list, tag+in+"</"+tag[1:2]+">")
			}
		}
	}
	return list
}

// contents: all that may stand in an element, of just so many nodes; no text right behind a text.
func contents(nodes int, text bool) []string {
	if nodes == 0 {
		return []string{""}
	}
	var list []string
	if !text {
		for _, rest := range contents(nodes-1, true) {
			list = append(list, "a"+rest)
		}
	}
	for in := range nodes {
		for _, inner := range contents(in, false) {
			for _, rest := range contents(nodes-1-in, false) {
				list = append(list, "<a>"+inner+"</a>"+rest, "<b a='a'>"+inner+"</b>"+rest)
			}
		}
	}
	return list
}

// queries: with predicates of many kinds.
func queries() []string {
	return []string{
		"a[b]", "//a[@x]", "//a[not(@x)]", "//*[. = 'b']", "//*[text() = 'b']", "//*[.//a]", "//node()[. = 'b']", "//a[c/a = 'b' and text() != 'b']",
		"//*[b][a]", "//*[b or c]/node()[not(a)]", "//*[a[b or text()]]/b", "//*[starts-with(., 'a') or ends-with(., 'b')]/node()[string-length(.) > 0]",
		"//*[@a]/self::b[@b != 'b']", "//*[.//@a = 'b']", "descendant::*[descendant::text()[contains(., 'b')]]/a", "self::node()[not(self::*)]/*/node()",
		"*[*]/*[not(b)][string-length(.) < 3]/descendant-or-self::node()[self::text() or @b]", "*[c]//*[not(.//text())]", "//node()[string-length(.) = 1]",
		"/a[b = 'x' and not(c)]", "//*[.//b[c[. = 'a'] and not(a)]/c = 'b']", "//a[not(not(b and (c or not(b = 'x'))))]", "a[.//node()[not(*)][not(text())]]", "//*[descendant-or-self::b[@b][. = 'bab' or string-length(.) > 4]]",
	}
}

// maker makes things by chance, the same ones each time.
type maker struct{ r *rand.Rand }

func newMaker(seed uint64) maker { return maker{rand.New(rand.NewPCG(seed, 18))} }

func pick[T any](m maker, list []T) T { return list[m.r.IntN(len(list))] }

func someNames() []string { return []string{"a", "b", "c", "é"} }

func someTexts() []string {
	return []string{"", "a", "b", "é", "ab", "ba", "aé", "bb", "\U0001F600", "aab"}
}

// letters: a text of at least one and at most so many of two letters.
func (m maker) letters(most int) string {
	var all strings.Builder
	for range 1 + m.r.IntN(most) {
		all.WriteString(pick(m, []string{"a", "a", "é"}))
	}
	return all.String()
}

// events: of a document of at most some so many nodes, of these texts.
func (m maker) events(most int, text func() string) []api.Event {
	var list, open []api.Event
	nodes := 0
	for more := 1 + m.r.IntN(most); more > 0 || len(open) > 0; more-- {
		deep := len(open)
		noText := deep == 0 || list[len(list)-1].Kind == api.Text
		switch at := m.r.IntN(6); {
		case deep == 0 && nodes > 0:
			return list
		case deep == 0 || more > 0 && at < 3:
			open = append(open, m.opened(nodes, deep+1))
			list = append(list, open[deep])
			nodes++
		case !noText && at < 5:
			list = append(list, api.Event{Kind: api.Text, Number: nodes, Depth: deep + 1, Text: text()})
			nodes++
		default:
			last := open[deep-1]
			list = append(list, api.Event{Kind: api.Close, Number: last.Number, Depth: deep, Name: last.Name})
			open = open[:deep-1]
		}
	}
	return list
}

func (m maker) opened(number, depth int) api.Event {
	e := api.Event{Kind: api.Open, Number: number, Depth: depth, Name: pick(m, someNames())}
	for _, name := range someNames() {
		if m.r.IntN(5) == 0 {
			e.Attrs = append(e.Attrs, api.Attr{Name: name, Value: pick(m, someTexts())})
		}
	}
	return e
}

func (m maker) text() string { return pick(m, someTexts()[1:]) }

func (m maker) path(deep int) api.Path {
	var list []api.Step
	for range 1 + m.r.IntN(3) {
		list = append(list, m.step(deep))
	}
	return steps(list...)
}

func (m maker) step(deep int) api.Step {
	if m.r.IntN(6) == 0 {
		return api.Step{Axis: api.OrSelf, Test: api.AnyNode}
	}
	s := api.Step{Axis: api.Axis(m.r.IntN(4)), Test: api.Test(m.r.IntN(4))}
	if s.Test == api.Named {
		s.Name = pick(m, someNames())
	}
	for deep > 0 && len(s.Where) < 4 && m.r.IntN(5) < 2 {
		s.Where = append(s.Where, m.expr(deep-1))
	}
	return s
}

func (m maker) expr(deep int) api.Expr {
	op := api.Some
	if deep > 0 {
		op = api.Op(m.r.IntN(4))
	}
	switch op {
	case api.Not:
		return no(m.expr(deep - 1))
	case api.Some:
		return m.some(deep)
	}
	x := api.Expr{Op: op}
	for range 2 + m.r.IntN(2) {
		x.Args = append(x.Args, m.expr(deep-1))
	}
	return x
}

func (m maker) some(deep int) api.Expr {
	x := api.Expr{Op: api.Some, Path: m.path(deep), Compare: api.Compare(m.r.IntN(9))}
	switch m.r.IntN(6) {
	case 0:
		x.Attr = pick(m, someNames())
	case 1:
		x.Attr, x.Path = pick(m, someNames()), steps(here())
	}
	switch {
	case x.Compare >= api.LengthIs:
		x.Number = m.r.IntN(5)
	case x.Compare >= api.Equal:
		x.Text = pick(m, someTexts())
	}
	return x
}

// formOf: bytes that begin with these events.
func formOf(events []api.Event) string {
	var all strings.Builder
	for _, e := range events {
		switch e.Kind {
		case api.Open:
			all.WriteString("<" + e.Name)
			for _, a := range e.Attrs {
				all.WriteString(" " + a.Name + "='" + a.Value + "'")
			}
			all.WriteString(">")
		case api.Text:
			all.WriteString(e.Text)
		case api.Close:
			all.WriteString("</" + e.Name + ">")
		}
	}
	return all.String()
}

// exprOf: the expression of a net's pred.
func exprOf(n api.Net, number int) api.Expr {
	pred := n.Preds[number]
	x := api.Expr{Op: pred.Op, Args: exprsOf(n, pred.Args), Attr: pred.Attr, Compare: pred.Compare, Text: pred.Text, Number: pred.Number}
	for _, r := range n.Rows[pred.First : pred.First+pred.Count] {
		x.Path.Steps = append(x.Path.Steps, api.Step{Axis: r.Axis, Test: r.Test, Name: r.Name, Where: exprsOf(n, r.Preds)})
	}
	return x
}

func exprsOf(n api.Net, numbers []int) []api.Expr {
	var list []api.Expr
	for _, number := range numbers {
		list = append(list, exprOf(n, number))
	}
	return list
}

// standing: the numbers of the nodes that stand at the depths from 0 on, by these events of a beginning; and how many of them are the root above and the open elements.
func standing(events []api.Event) (numbers []int, open int) {
	numbers = []int{-1}
	for i, e := range events {
		switch e.Kind {
		case api.Open:
			numbers = append(numbers, e.Number)
		case api.Text:
			if i == len(events)-1 {
				return append(numbers, e.Number), len(numbers)
			}
		case api.Close:
			if i == len(events)-1 {
				return numbers, len(numbers) - 1
			}
			numbers = numbers[:len(numbers)-1]
		}
	}
	return numbers, len(numbers)
}

// plainly: a comparison of a text, behind which others may come where it is open, by the document's words.
func plainly(s []rune, x api.Expr, open bool) api.Truth {
	text := []rune(x.Text)
	begins := func(a, b []rune) bool { return len(a) >= len(b) && slices.Equal(a[:len(b)], b) }
	found := false
	for at := range len(s) + 1 {
		found = found || begins(s[at:], text)
	}
	isTrue, isFalse := false, false
	switch x.Compare {
	case api.Exists:
		isTrue = true
	case api.Equal:
		isTrue, isFalse = !open && slices.Equal(s, text), !begins(text, s)
	case api.Unequal:
		isTrue, isFalse = !begins(text, s) || !open && len(s) != len(text), !open
	case api.Begins:
		isTrue, isFalse = begins(s, text), !begins(text, s)
	case api.Ends:
		isTrue = !open && len(s) >= len(text) && slices.Equal(s[len(s)-len(text):], text)
	case api.Contains:
		isTrue = found
	case api.LengthIs:
		isTrue, isFalse = !open && len(s) == x.Number, len(s) > x.Number
	case api.Longer:
		isTrue = len(s) > x.Number
	case api.Shorter:
		isTrue, isFalse = !open && len(s) < x.Number, len(s) >= x.Number
	}
	switch {
	case isTrue:
		return api.True
	case isFalse || !open:
		return api.False
	}
	return api.Unknown
}

func letter(v api.Truth) string {
	if v < api.False || v > api.True {
		return "?"
	}
	return "FUT"[v : v+1]
}

// lettersAt: what is known of the first many preds at a depth; ? where the call answers an error.
func lettersAt(h *hopes.Hopes, depth, many int) string {
	all := ""
	for pred := range many {
		v, e := h.Truth(depth, pred)
		if e != api.OK {
			v = -1
		}
		all += letter(v)
	}
	return all
}

// lettersOf: what is known of the first many preds at all depths that stand, from 0 on.
func lettersOf(h *hopes.Hopes, many int) string {
	all := ""
	for depth := 0; ; depth++ {
		if _, e := h.Truth(depth, 0); e != api.OK {
			return all
		}
		all += " " + lettersAt(h, depth, many)
	}
}
