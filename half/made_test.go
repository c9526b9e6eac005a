package half_test

import (
	"math/rand/v2"
	"slices"
	"strings"
	"testing"

	"gimlet/api"
	"gimlet/ask"
	"gimlet/nest"
)

// What follows makes paths, expressions, documents and beginnings of their events.

// chapters: the document of the chapter's examples: 0 a, 1 b, 2 "x", 3 c.
const chapters = "<a><b>x</b><c/></a>"

// eventsOf: of what must be a document.
func eventsOf(t testing.TB, d string) []api.Event {
	t.Helper()
	list, err := nest.Events([]byte(d), api.MaxDepth)
	if err != nil {
		t.Fatalf("%.80q is no document: %v", d, err)
	}
	return list
}

// begun: the events of bytes that must be a document's beginning.
func begun(t testing.TB, d string) []api.Event {
	t.Helper()
	n, _ := nest.New(api.MaxDepth)
	n.Push([]byte(d))
	var list []api.Event
	for {
		e, how, fault := n.Next()
		switch how {
		case api.Have:
			list = append(list, e)
		case api.Wait:
			return list
		default:
			t.Fatalf("%.80q is no beginning: %v", d, fault)
		}
	}
}

// query: the path of what must be a query.
func query(t testing.TB, q string) api.Path {
	t.Helper()
	p, err := ask.Parse([]byte(q), api.MaxQuery, api.MaxNested)
	if err != nil {
		t.Fatalf("%.80q is no query: %v", q, err)
	}
	return p
}

// expr: what stands in the brackets of a predicate.
func expr(t testing.TB, x string) api.Expr {
	t.Helper()
	return query(t, "a["+x+"]").Steps[0].Where[0]
}

// shown: a path as a query; of what is none just how many steps it has: it may hold itself.
func shown(p api.Path) any {
	if text, e := ask.Print(p); e == api.OK {
		return text
	}
	return len(p.Steps)
}

func shownExpr(x api.Expr) any { return shown(steps(here(x))) }

func steps(list ...api.Step) api.Path { return api.Path{Steps: list} }

func child(name string, where ...api.Expr) api.Step {
	return api.Step{Name: name, Where: where}
}

func here(where ...api.Expr) api.Step {
	return api.Step{Axis: api.Self, Test: api.AnyNode, Where: where}
}

func there(list ...api.Step) api.Expr { return api.Expr{Op: api.Some, Path: steps(list...)} }

func attr(name string, list ...api.Step) api.Expr {
	if len(list) == 0 {
		list = []api.Step{here()}
	}
	return api.Expr{Op: api.Some, Path: steps(list...), Attr: name}
}

func withText(x api.Expr, c api.Compare, text string) api.Expr {
	x.Compare, x.Text = c, text
	return x
}

func withNumber(x api.Expr, c api.Compare, number int) api.Expr {
	x.Compare, x.Number = c, number
	return x
}

func allOf(list ...api.Expr) api.Expr { return api.Expr{Op: api.And, Args: list} }

func oneOf(list ...api.Expr) api.Expr { return api.Expr{Op: api.Or, Args: list} }

func no(x api.Expr) api.Expr { return api.Expr{Op: api.Not, Args: []api.Expr{x}} }

// wrapped: x within that many of what around makes.
func wrapped(n int, x api.Expr, around func(api.Expr) api.Expr) api.Expr {
	for range n {
		x = around(x)
	}
	return x
}

// bareSteps: every axis with every test, of these names.
func bareSteps(names ...string) []api.Step {
	var list []api.Step
	for a := api.Child; a <= api.Self; a++ {
		for _, name := range names {
			list = append(list, api.Step{Axis: a, Name: name})
		}
		for test := api.AnyName; test <= api.AnyNode; test++ {
			list = append(list, api.Step{Axis: a, Test: test})
		}
	}
	return list
}

// comparisons: x with each comparison, of several texts and numbers.
func comparisons(x api.Expr) []api.Expr {
	list := []api.Expr{x}
	for _, text := range []string{"", "a", "b", "ab", "é"} {
		for c := api.Equal; c <= api.Contains; c++ {
			list = append(list, withText(x, c, text))
		}
	}
	for number := range 4 {
		for c := api.LengthIs; c <= api.Shorter; c++ {
			list = append(list, withNumber(x, c, number))
		}
	}
	return list
}

// documents: of many shapes.
func documents() []string {
	return []string{
		"<a/>", "<b></b>", "<a>b</a>", "<a b='b'/>", chapters,
		"<a><b/></a>", "<a><b/><b/></a>", "<a><a><a/></a></a>", "<b>a<a>b</a></b>", "<a>b<b>a<c>c</c></b></a>", "<a><b/>a<b/><c><d/></c>b</a>",
		"<a b='' a='b'><b b='ab'>a<b b='b' c=''>b</b>ab</b><a a=''>b</a></a>",
		"<é a='é'>é<a é='aé'>b</a><é>é\U0001F600</é></é>",
		" <!--c--><a>a<!-- y -->&#98;<![CDATA[<]]>&#13;\r\n<b>&amp;\"'</b></a >\r\n",
		"<r><a><b/></a><a/><c>a<b/>b</c></r>",
		"<a><b><c>a</c></b><b><c>b</c><a b='a'/></b>c<c><b a='b'>ab</b></c></a>",
	}
}

// shorts: all documents of at most so many nodes, of these two names and this text.
func shorts(most int) []string {
	var list []string
	for n := 1; n <= most; n++ {
		for _, in := range contents(n-1, false) {
			for _, tag := range []string{"<a>", "<b a='a'>"} {
				list = append(list, tag+in+"</"+tag[1:2]+">")
			}
		}
	}
	return list
}

// contents: all that may stand in an element, of just so many nodes; no text right behind a text.
func contents(nodes int, text bool) []string {
	if nodes == 0 {
		return []string{""}
	}
	var list []string
	if !text {
		for _, rest := range contents(nodes-1, true) {
			list = append(list, "a"+rest)
		}
	}
	for in := range nodes {
		for _, inner := range contents(in, false) {
			for _, rest := range contents(nodes-1-in, false) {
				list = append(list, "<a>"+inner+"</a>"+rest, "<b a='a'>"+inner+"</b>"+rest)
			}
		}
	}
	return list
}

// queries: some that lead to something in many of the documents.
func queries() []string {
	return []string{
		"a", "//a", "//text()", "/a/c/a", "//node()", ".", "//.", "self::node()[a]/a", "self::a", "//*/.",
		"//a[@x]", "//a[not(@x)]", "//*[. = 'b']", "//*[text() = 'b']", "//*[.//a]", "//node()[. = 'b']", "//a[c/a = 'b' and text() != 'b']",
		"//*[b][a]", "//*[b or c]/node()[not(a)]", "descendant::b/descendant-or-self::*/text()", "//*[a[b or text()]]/b", "//*[starts-with(., 'a') or ends-with(., 'b')]/node()[string-length(.) > 0]",
		"//*[@a]/self::b[@b != 'b']", "//*[.//@a = 'b']", "descendant::*[descendant::text()[contains(., 'b')]]/a", "self::node()[not(self::*)]/*/node()",
		"*[*]/*[not(b)][string-length(.) < 3]/descendant-or-self::node()[self::text() or @b]", "*[c]//*[not(.//text())]", "//*[not(a)]", "//node()[string-length(.) = 1]",
	}
}

// maker makes things by chance, the same ones each time.
type maker struct{ r *rand.Rand }

func newMaker(seed uint64) maker { return maker{rand.New(rand.NewPCG(seed, 15))} }

func pick[T any](m maker, list []T) T { return list[m.r.IntN(len(list))] }

func someNames() []string { return []string{"a", "b", "c", "é"} }

func someTexts() []string {
	return []string{"", "a", "b", "é", "ab", "ba", "aé", "bb", "\U0001F600", "aab"}
}

// events: of a document of at most some so many nodes.
func (m maker) events(most int) []api.Event { return m.goneOn(nil, 1+m.r.IntN(most)) }

// goneOn: these events of a beginning, and behind them others that make them a document's, some so many nodes more.
func (m maker) goneOn(events []api.Event, more int) []api.Event {
	list := slices.Clone(events)
	var open []api.Event
	nodes, text := 0, false
	took := func(e api.Event) {
		switch e.Kind {
		case api.Open:
			open = append(open, e)
		case api.Close:
			open = open[:len(open)-1]
		}
		if e.Kind != api.Close {
			nodes++
		}
		text = e.Kind == api.Text
	}
	for _, e := range list {
		took(e)
	}
	for len(list) == 0 || len(open) > 0 {
		e := m.next(open, nodes, text || more <= 0, more)
		more--
		list = append(list, e)
		took(e)
	}
	return list
}

// next: some event that may come where these elements are open.
func (m maker) next(open []api.Event, nodes int, noText bool, more int) api.Event {
	deep := len(open)
	switch at := m.r.IntN(6); {
	case deep == 0 || more > 0 && at < 3:
		e := api.Event{Kind: api.Open, Number: nodes, Depth: deep + 1, Name: pick(m, someNames())}
		for _, name := range someNames() {
			if m.r.IntN(5) == 0 {
				e.Attrs = append(e.Attrs, api.Attr{Name: name, Value: pick(m, someTexts())})
			}
		}
		return e
	case !noText && at < 5:
		return api.Event{Kind: api.Text, Number: nodes, Depth: deep + 1, Text: pick(m, someTexts()[1:])}
	}
	last := open[deep-1]
	return api.Event{Kind: api.Close, Number: last.Number, Depth: deep, Name: last.Name}
}

func (m maker) path(deep int) api.Path {
	var list []api.Step
	for range 1 + m.r.IntN(3) {
		list = append(list, m.step(deep))
	}
	return steps(list...)
}

func (m maker) step(deep int) api.Step {
	if m.r.IntN(6) == 0 {
		return api.Step{Axis: api.OrSelf, Test: api.AnyNode}
	}
	s := api.Step{Axis: api.Axis(m.r.IntN(4)), Test: api.Test(m.r.IntN(4))}
	if s.Test == api.Named {
		s.Name = pick(m, someNames())
	}
	for deep > 0 && m.r.IntN(3) == 0 {
		s.Where = append(s.Where, m.expr(deep-1))
	}
	return s
}

func (m maker) expr(deep int) api.Expr {
	op := api.Some
	if deep > 0 {
		op = api.Op(m.r.IntN(4))
	}
	switch op {
	case api.Not:
		return no(m.expr(deep - 1))
	case api.Some:
		return m.some(deep)
	}
	x := api.Expr{Op: op}
	for range 2 + m.r.IntN(2) {
		x.Args = append(x.Args, m.expr(deep-1))
	}
	return x
}

func (m maker) some(deep int) api.Expr {
	x := api.Expr{Op: api.Some, Path: m.path(deep), Compare: api.Compare(m.r.IntN(9))}
	switch m.r.IntN(6) {
	case 0:
		x.Attr = pick(m, someNames())
	case 1:
		x.Attr, x.Path = pick(m, someNames()), steps(here())
	}
	switch {
	case x.Compare >= api.LengthIs:
		x.Number = m.r.IntN(5)
	case x.Compare >= api.Equal:
		x.Text = pick(m, someTexts())
	}
	return x
}

// formOf: the document that has these events.
func formOf(events []api.Event) string {
	var all strings.Builder
	for _, e := range events {
		switch e.Kind {
		case api.Open:
			all.WriteString("<" + e.Name)
			for _, a := range e.Attrs {
				all.WriteString(" " + a.Name + "=\"" + valueEscapes().Replace(a.Value) + "\"")
			}
			all.WriteString(">")
		case api.Text:
			all.WriteString(textEscapes().Replace(e.Text))
		case api.Close:
			all.WriteString("</" + e.Name + ">")
		}
	}
	return all.String()
}

func textEscapes() *strings.Replacer {
	return strings.NewReplacer("&", "&amp;", "<", "&lt;", ">", "&gt;", "\r", "&#xD;")
}

func valueEscapes() *strings.Replacer {
	return strings.NewReplacer("&", "&amp;", "<", "&lt;", `"`, "&quot;", "\t", "&#x9;", "\n", "&#xA;", "\r", "&#xD;")
}
