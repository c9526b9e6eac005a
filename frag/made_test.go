package frag_test

import (
	"math"
	"math/rand/v2"
	"strconv"
	"strings"
	"testing"

	"gimlet/api"
	"gimlet/ask"
	"gimlet/tree"
)

// What follows makes paths, expressions and documents.

// parsed: the tree of what must be a document.
func parsed(t testing.TB, d string) *tree.Tree {
	t.Helper()
	p, err := tree.Parse([]byte(d), api.MaxDepth)
	if err != nil {
		t.Fatalf("%.80q is no document: %v", d, err)
	}
	return p
}

// query: the path of what must be a query.
func query(t testing.TB, q string) api.Path {
	t.Helper()
	p, err := ask.Parse([]byte(q), api.MaxQuery, api.MaxNested)
	if err != nil {
		t.Fatalf("%.80q is no query: %v", q, err)
	}
	return p
}

func steps(list ...api.Step) api.Path { return api.Path{Steps: list} }

func child(name string, where ...api.Expr) api.Step {
	return api.Step{Name: name, Where: where}
}

func here(where ...api.Expr) api.Step {
	return api.Step{Axis: api.Self, Test: api.AnyNode, Where: where}
}

// anyBelow: descendant-or-self::node().
func anyBelow(where ...api.Expr) api.Step {
	return api.Step{Axis: api.OrSelf, Test: api.AnyNode, Where: where}
}

// always, never: the true one, the false one.
func always() api.Expr { return there(here()) }

func never() api.Expr { return no(always()) }

func there(list ...api.Step) api.Expr { return api.Expr{Op: api.Some, Path: steps(list...)} }

func attr(name string, list ...api.Step) api.Expr {
	if len(list) == 0 {
		list = []api.Step{here()}
	}
	return api.Expr{Op: api.Some, Path: steps(list...), Attr: name}
}

func withText(x api.Expr, c api.Compare, text string) api.Expr {
	x.Compare, x.Text = c, text
	return x
}

func withNumber(x api.Expr, c api.Compare, number int) api.Expr {
	x.Compare, x.Number = c, number
	return x
}

func allOf(list ...api.Expr) api.Expr { return api.Expr{Op: api.And, Args: list} }

func oneOf(list ...api.Expr) api.Expr { return api.Expr{Op: api.Or, Args: list} }

func no(x api.Expr) api.Expr { return api.Expr{Op: api.Not, Args: []api.Expr{x}} }

// wrapped: x within that many of what around makes.
func wrapped(n int, x api.Expr, around func(api.Expr) api.Expr) api.Expr {
	for range n {
		x = around(x)
	}
	return x
}

// bareSteps: every axis with every test, of these names.
func bareSteps(names ...string) []api.Step {
	var list []api.Step
	for a := api.Child; a <= api.Self; a++ {
		for _, name := range names {
			list = append(list, api.Step{Axis: a, Name: name})
		}
		for test := api.AnyName; test <= api.AnyNode; test++ {
			list = append(list, api.Step{Axis: a, Test: test})
		}
	}
	return list
}

// documents: of many shapes.
func documents() []string {
	return []string{
		"<a/>", "<b></b>", "<a>b</a>", "<a b='b'/>", "<a x='1'>b<c><a>b</a></c>d</a>",
		"<a><b/></a>", "<a><b/><b/></a>", "<a><a><a/></a></a>", "<b>a<a>b</a></b>", "<a>b<b>a<c>c</c></b></a>", "<a><b/>a<b/><c><d/></c>b</a>",
		"<a b='' a='b'><b b='ab'>a<b b='b' c=''>b</b>ab</b><a a=''>b</a></a>",
		"<é a='é'>é<a é='aé'>b</a><é>é\U0001F600</é></é>",
		" <!--c--><a>a<!-- y -->&#98;<![CDATA[<]]>&#13;\r\n<b>&amp;\"'</b></a >\r\n",
		"<r><a><b/></a><a/><c>a<b/>b</c></r>",
		"<a><b><c>a</c></b><b><c>b</c><a b='a'/></b>c<c><b a='b'>ab</b></c></a>",
	}
}

// shorts: all documents of at most so many nodes, of these two names and this text.
func shorts(most int) []string {
	var list []string
	for n := 1; n <= most; n++ {
		for _, in := range contents(n-1, false) {
			for _, tag := range []string{"<a>", "<b a='a'>"} {
				list = append(list, tag+in+"</"+tag[1:2]+">")
			}
		}
	}
	return list
}

// contents: all that may stand in an element, of just so many nodes; no text right behind a text.
func contents(nodes int, text bool) []string {
	if nodes == 0 {
		return []string{""}
	}
	var list []string
	if !text {
		for _, rest := range contents(nodes-1, true) {
			list = append(list, "a"+rest)
		}
	}
	for in := range nodes {
		for _, inner := range contents(in, false) {
			for _, rest := range contents(nodes-1-in, false) {
				list = append(list, "<a>"+inner+"</a>"+rest, "<b a='a'>"+inner+"</b>"+rest)
			}
		}
	}
	return list
}

// maker makes things by chance, the same ones each time.
type maker struct{ r *rand.Rand }

func newMaker(seed uint64) maker { return maker{rand.New(rand.NewPCG(seed, 13))} }

func pick[T any](m maker, list []T) T { return list[m.r.IntN(len(list))] }

func someNames() []string { return []string{"a", "b", "c", "é"} }

func someTexts() []string {
	return []string{"", "a", "b", "é", "ab", "ba", "aé", "bb", "\U0001F600", "aab"}
}

func (m maker) document() string {
	var out strings.Builder
	left := 1 + m.r.IntN(14)
	m.element(&out, &left, 0)
	return out.String()
}

func (m maker) element(out *strings.Builder, left *int, deep int) {
	*left--
	name := pick(m, someNames())
	out.WriteString("<" + name)
	for _, a := range someNames() {
		if m.r.IntN(5) == 0 {
			out.WriteString(" " + a + "='" + pick(m, someTexts()) + "'")
		}
	}
	out.WriteString(">")
	for *left > 0 && m.r.IntN(4+deep) < 4 {
		if m.r.IntN(3) == 0 {
			*left--
			out.WriteString(pick(m, someTexts()))
		} else {
			m.element(out, left, deep+1)
		}
	}
	out.WriteString("</" + name + ">")
}

func (m maker) path(deep int) api.Path {
	var list []api.Step
	for range 1 + m.r.IntN(4) {
		list = append(list, m.step(deep))
	}
	return steps(list...)
}

func (m maker) step(deep int) api.Step {
	switch m.r.IntN(8) {
	case 0:
		return anyBelow()
	case 1:
		return here()
	}
	s := api.Step{Axis: api.Axis(m.r.IntN(4)), Test: api.Test(m.r.IntN(4))}
	if s.Test == api.Named {
		s.Name = pick(m, someNames())
	}
	for deep > 0 && m.r.IntN(3) == 0 {
		s.Where = append(s.Where, m.expr(deep-1))
	}
	return s
}

func (m maker) expr(deep int) api.Expr {
	switch m.r.IntN(12) {
	case 0:
		return always()
	case 1:
		return never()
	}
	op := api.Some
	if deep > 0 {
		op = api.Op(m.r.IntN(4))
	}
	switch op {
	case api.Not:
		return no(m.expr(deep - 1))
	case api.Some:
		return m.some(deep)
	}
	x := api.Expr{Op: op}
	for range 2 + m.r.IntN(2) {
		x.Args = append(x.Args, m.expr(deep-1))
	}
	if m.r.IntN(3) == 0 {
		x.Args = append(x.Args, pick(m, x.Args))
	}
	return x
}

func (m maker) some(deep int) api.Expr {
	x := api.Expr{Op: api.Some, Path: m.path(deep), Compare: api.Compare(m.r.IntN(9))}
	switch m.r.IntN(6) {
	case 0:
		x.Attr = pick(m, someNames())
	case 1:
		x.Attr, x.Path = pick(m, someNames()), steps(here())
	}
	switch {
	case x.Compare >= api.LengthIs:
		x.Number = m.r.IntN(5)
	case x.Compare >= api.Equal:
		x.Text = pick(m, someTexts())
	}
	return x
}

// queries: some that lead to something in many of the documents.
func queries() []string {
	return []string{
		"a", "//a", "//text()", "/a/c/a", "//node()", ".", "//.", "self::node()[a]/a", "self::a", "//*/.",
		"//a[@x]", "//a[not(@x)]", "//*[. = 'b']", "//*[text() = 'b']", "//*[.//a]", "//node()[. = 'b']", "//a[c/a = 'b' and text() != 'b']",
		"//*[b][a]", "//*[b or c]/node()[not(a)]", "descendant::b/descendant-or-self::*/text()", "//*[a[b or text()]]/b", "//*[starts-with(., 'a') or ends-with(., 'b')]/node()[string-length(.) > 0]",
		"//*[@a]/self::b[@b != 'b']", "//*[.//@a = 'b']", "descendant::*[descendant::text()[contains(., 'b')]]/a", "self::node()[not(self::*)]/*/node()",
		"*[*]/*[not(b)][string-length(.) < 3]/descendant-or-self::node()[self::text() or @b]",
	}
}

// wrongSteps: those that make a path none, each for one reason.
func wrongSteps() []api.Step {
	return []api.Step{
		{}, child("1"), child("a b"), child("a:b"), child("\xFF"), child("a\xFF"), child("."), child("*"),
		{Test: api.AnyName, Name: "a"}, {Test: api.TextNode, Name: "text"}, {Test: api.AnyNode, Name: "a"}, {Axis: api.Self, Test: api.AnyNode, Name: "a"}, {Axis: api.Self},
		{Axis: -1, Name: "a"}, {Axis: 4, Name: "a"}, {Axis: math.MinInt, Name: "a"}, {Test: -1}, {Test: 4}, {Test: 4, Name: "a"}, {Test: math.MaxInt},
	}
}

// wrongExprs: expressions that are none, each for one reason.
func wrongExprs() []api.Expr {
	b := there(child("b"))
	list := []api.Expr{
		{}, {Op: api.Or}, {Op: api.Not}, {Op: api.Some}, {Op: 4}, {Op: -1}, {Op: 4, Path: b.Path}, {Op: math.MaxInt, Args: []api.Expr{b, b}}, allOf(b), oneOf(b), {Op: api.Not, Args: []api.Expr{b, b}},
		{Op: api.And, Args: []api.Expr{b, b}, Path: b.Path}, {Op: api.And, Args: []api.Expr{b, b}, Attr: "a"}, {Op: api.Or, Args: []api.Expr{b, b}, Compare: api.Equal}, {Op: api.Or, Args: []api.Expr{b, b}, Text: "x"}, {Op: api.Not, Args: []api.Expr{b}, Number: 1}, {Op: api.Not, Args: []api.Expr{b}, Path: b.Path},
		allOf(b, api.Expr{}), oneOf(api.Expr{Op: api.Some}, b), no(api.Expr{}), {Op: api.Some, Path: b.Path, Args: []api.Expr{b}}, {Op: api.Some, Attr: "a"}, {Op: api.Some, Args: []api.Expr{b}},
		attr("1"), attr("a b"), attr("*"), attr("\xFF"), attr("@a"),
		withText(b, api.Exists, "x"), withNumber(b, api.Exists, 1), withNumber(b, api.Equal, 1), withNumber(b, api.Begins, 1), withText(b, api.LengthIs, "x"), withText(b, 9, ""), withText(b, -1, ""), withText(b, 9, "x"), withNumber(b, math.MaxInt, 7),
		withText(b, api.Equal, `'"`), withText(b, api.Unequal, `"x'`), withText(b, api.Begins, "\xFF"), withText(b, api.Ends, "a\xC3"), withText(b, api.Contains, "\xED\xA0\x80"),
		withNumber(b, api.LengthIs, -1), withNumber(b, api.Longer, api.MaxNumber+1), withNumber(b, api.Shorter, math.MinInt), withNumber(b, api.Longer, math.MaxInt),
		wrapped(api.MaxNested, b, no), wrapped(1<<16, b, no), wrapped(1<<16, b, func(x api.Expr) api.Expr { return there(child("a", x)) }), wrapped(1<<16, b, func(x api.Expr) api.Expr { return allOf(x, b) }),
	}
	for _, s := range wrongSteps() {
		list = append(list, there(s), there(child("a"), s), attr("a", s))
	}
	within := []api.Expr{{Op: api.And}, {Op: api.Or}} // a value that holds itself
	within[0].Args, within[1].Args = within, within
	return append(list, within[0])
}

// wrongPaths: of the steps and expressions that are none, at several places, also where a normal form would leave them out.
func wrongPaths() []api.Path {
	list := []api.Path{{}, {Steps: []api.Step{}}}
	for _, s := range wrongSteps() {
		list = append(list, steps(s), steps(child("a"), s), steps(s, child("a")), steps(child("z"), child("z"), s))
	}
	b := there(child("b"))
	for _, x := range wrongExprs() {
		list = append(list, steps(child("a", x)), steps(child("z"), child("z", b, x), child("c")), steps(child("a", there(child("b", x)))), steps(here(no(x))), steps(child("a", never(), x)), steps(child("a", oneOf(always(), x))))
	}
	return list
}

// shown: of what is no path just how many steps it has: it may hold itself.
func shown(p api.Path) string {
	if text, e := ask.Print(p); e == api.OK {
		return text
	}
	return "no path of " + strconv.Itoa(len(p.Steps)) + " steps"
}
