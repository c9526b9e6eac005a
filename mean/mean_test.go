package mean_test

import (
	"math"
	"slices"
	"strings"
	"testing"

	"gimlet/api"
	"gimlet/ask"
	"gimlet/mean"
	"gimlet/tree"
)

// needNodes: P12.2, what a query selects of a document.
func needNodes(t *testing.T, d, q string, want ...int) {
	t.Helper()
	if got, e := mean.Select(parsed(t, d), query(t, q)); e != api.OK || !slices.Equal(got, want) {
		t.Errorf("P12.2: %s of %s: %v, %d, want %v", q, d, got, e, want)
	}
}

// needLed: P12.1, where a path leads from a node.
func needLed(t *testing.T, d string, n int, q string, want ...int) {
	t.Helper()
	if got, e := mean.From(parsed(t, d), n, query(t, q)); e != api.OK || !slices.Equal(got, want) {
		t.Errorf("P12.1: %s of %s from %d: %v, %d, want %v", q, d, n, got, e, want)
	}
}

// needTrue: P12.3, the only nodes of which an expression holds.
func needTrue(t *testing.T, d, x string, want ...int) {
	t.Helper()
	tr := parsed(t, d)
	var list []int
	for n := -1; n < tr.Len(); n++ {
		got, e := mean.Holds(tr, n, expr(t, x))
		if e != api.OK {
			t.Errorf("P12.3: %s of %s at %d: %d", x, d, n, e)
		}
		if got {
			list = append(list, n)
		}
	}
	if !slices.Equal(list, want) {
		t.Errorf("P12.3: %s of %s holds of %v, want %v", x, d, list, want)
	}
}

func needCompared(t *testing.T, s string, c api.Compare, text string, number int, want bool) {
	t.Helper()
	if got, e := mean.Compared(s, c, text, number); got != want || e != api.OK {
		t.Errorf("P12.4: Compared(%q, %d, %q, %d) = %v, %d", s, c, text, number, got, e)
	}
}

func TestExamples(t *testing.T) {
	for _, r := range []struct {
		q    string
		want []int
	}{
		{"a", []int{0}}, {"//a", []int{0, 3}}, {"//text()", []int{1, 4, 5}}, {"/a/c/a", []int{3}}, {"//node()", []int{0, 1, 2, 3, 4, 5}},
		{"//a[@x]", []int{0}}, {"//a[not(@x)]", []int{3}}, {"//*[@x = \"1\"]", []int{0}}, {"//*[@x != \"1\"]", nil},
		{"//*[. = \"b\"]", []int{2, 3}}, {"//*[text() = \"b\"]", []int{0, 3}}, {"//*[.//a]", []int{0, 2}}, {"//node()[. = \"b\"]", []int{1, 2, 3, 4}},
		{"//a[c/a = \"b\" and text() != \"b\"]", []int{0}}, {"//a[contains(., \"bd\")]", []int{0}},
		{"//a[string-length(.) = 3]", []int{0}}, {"//a[string-length(.) < 3]", []int{3}}, {"//text()[ends-with(., \"d\")]", []int{5}},
		{".", nil}, {"self::node()[a]/a", []int{0}}, {"self::node()[c]/a", nil}, {"self::a", nil},
	} {
		needNodes(t, chapters, r.q, r.want...)
	}
	needLed(t, chapters, 0, "child::text()", 1, 5)
	needLed(t, chapters, -1, "self::node()", -1)
	if list, e := mean.From(parsed(t, chapters), 6, query(t, "//node()")); len(list) != 0 || e != api.ErrRange {
		t.Errorf("P12.1: from 6: %v, %d", list, e)
	}
	if holds, e := mean.Holds(parsed(t, chapters), -1, withText(there(here()), api.Equal, "bbd")); !holds || e != api.OK {
		t.Errorf("P12.3: at -1: %v, %d", holds, e)
	}
	needCompared(t, "é", api.LengthIs, "", 1, true)
	if holds, e := mean.Compared("", 9, "", 0); holds || e != api.ErrKind {
		t.Errorf("P12.4: %v, %d", holds, e)
	}
}

// TestWholeExamples: those of the whole that say what a query selects.
func TestWholeExamples(t *testing.T) {
	needNodes(t, "<a>x<b c='é'>y</b></a>", "//b[@c='é']", 2)
	needNodes(t, "<r><a><b/></a><a/></r>", "//a[b]", 1)
	needNodes(t, "<a><b><x/></b></a>", "//*[x]", 1)
	needNodes(t, "<a><a>t</a></a>", "//a", 0, 1)
	needNodes(t, "<a><c/></a>", "a[not(b)]", 0)
	needNodes(t, "<a><b/></a>", "a[not(b)]")
	needNodes(t, "<a>x<!-- -->&#xE9;<![CDATA[<]]></a>", "//text()[contains(., 'é')]", 1)
}

// TestAxes: every axis with every test, from every node and from -1.
func TestAxes(t *testing.T) {
	all := map[string][][]int{ // from -1, 0 a, 1 "b", 2 c, 3 a, 4 "b", 5 "d"
		"child::a":                   {{0}, nil, nil, {3}, nil, nil, nil},
		"child::c":                   {nil, {2}, nil, nil, nil, nil, nil},
		"child::*":                   {{0}, {2}, nil, {3}, nil, nil, nil},
		"child::text()":              {nil, {1, 5}, nil, nil, {4}, nil, nil},
		"child::node()":              {{0}, {1, 2, 5}, nil, {3}, {4}, nil, nil},
		"descendant::a":              {{0, 3}, {3}, nil, {3}, nil, nil, nil},
		"descendant::c":              {{2}, {2}, nil, nil, nil, nil, nil},
		"descendant::*":              {{0, 2, 3}, {2, 3}, nil, {3}, nil, nil, nil},
		"descendant::text()":         {{1, 4, 5}, {1, 4, 5}, nil, {4}, {4}, nil, nil},
		"descendant::node()":         {{0, 1, 2, 3, 4, 5}, {1, 2, 3, 4, 5}, nil, {3, 4}, {4}, nil, nil},
		"descendant-or-self::a":      {{0, 3}, {0, 3}, nil, {3}, {3}, nil, nil},
		"descendant-or-self::c":      {{2}, {2}, nil, {2}, nil, nil, nil},
		"descendant-or-self::*":      {{0, 2, 3}, {0, 2, 3}, nil, {2, 3}, {3}, nil, nil},
		"descendant-or-self::text()": {{1, 4, 5}, {1, 4, 5}, {1}, {4}, {4}, {4}, {5}},
		"descendant-or-self::node()": {{-1, 0, 1, 2, 3, 4, 5}, {0, 1, 2, 3, 4, 5}, {1}, {2, 3, 4}, {3, 4}, {4}, {5}},
		"self::a":                    {nil, {0}, nil, nil, {3}, nil, nil},
		"self::c":                    {nil, nil, nil, {2}, nil, nil, nil},
		"self::*":                    {nil, {0}, nil, {2}, {3}, nil, nil},
		"self::text()":               {nil, nil, {1}, nil, nil, {4}, {5}},
		"self::node()":               {{-1}, {0}, {1}, {2}, {3}, {4}, {5}},
		"child::b":                   {nil, nil, nil, nil, nil, nil, nil},
		"descendant-or-self::A":      {nil, nil, nil, nil, nil, nil, nil},
	}
	for q, want := range all {
		for i, list := range want {
			needLed(t, chapters, i-1, q, list...)
			needLed(t, chapters, i-1, "./"+q+"/.", list...)
		}
		nodes := slices.DeleteFunc(slices.Clone(want[0]), func(n int) bool { return n < 0 })
		needNodes(t, chapters, q, nodes...)
	}
}

// TestNames: an element's name, character by character.
func TestNames(t *testing.T) {
	d := "<é><e/><É/><éa/>é<é/><text/><node/></é>" // 0 é, 1 e, 2 É, 3 éa, 4 "é", 5 é, 6 text, 7 node
	needNodes(t, d, "//é", 0, 5)
	needNodes(t, d, "//e", 1)
	needNodes(t, d, "//É", 2)
	needNodes(t, d, "//éa", 3)
	needNodes(t, d, "//text", 6)
	needNodes(t, d, "//node", 7)
	needNodes(t, d, "//text()", 4)
	needNodes(t, d, "//e\u0301")
}

func TestPaths(t *testing.T) {
	d := "<a><b>x<c>y</c></b><b><b><c/></b>z</b></a>" // 0 a, 1 b, 2 x, 3 c, 4 y, 5 b, 6 b, 7 c, 8 z
	needNodes(t, d, "a/b", 1, 5)
	needNodes(t, d, "a/b/c", 3)
	needNodes(t, d, "a//c", 3, 7)
	needNodes(t, d, "//b//c", 3, 7)
	needNodes(t, d, "//b/b", 6)
	needNodes(t, d, "descendant::b/descendant::node()", 2, 3, 4, 6, 7, 8)
	needNodes(t, d, "//b", 1, 5, 6)
	needNodes(t, d, "b")
	needNodes(t, d, "a/a")
	needNodes(t, d, "text()")
	needNodes(t, d, "//text()/node()")
	needNodes(t, d, "//text()/descendant-or-self::node()", 2, 4, 8)
	needNodes(t, d, "//*/self::c", 3, 7)
	needNodes(t, d, "//c/self::b")
	needNodes(t, d, "descendant-or-self::node()/descendant-or-self::node()/b", 1, 5, 6)
	needNodes(t, d, ".//.//.", 0, 1, 2, 3, 4, 5, 6, 7, 8)
	needLed(t, d, 5, ".//b", 6)
	needLed(t, d, 5, "descendant-or-self::b", 5, 6)
	needLed(t, d, 1, "b/c")
}

func TestPredicates(t *testing.T) {
	d := "<a><b><c/></b><b><d/></b><b><c/><d/></b><b/></a>" // 0 a, 1 b, 2 c, 3 b, 4 d, 5 b, 6 c, 7 d, 8 b
	needNodes(t, d, "//b[c]", 1, 5)
	needNodes(t, d, "//b[d]", 3, 5)
	needNodes(t, d, "//b[c and d]", 5)
	needNodes(t, d, "//b[c][d]", 5)
	needNodes(t, d, "//b[c or d]", 1, 3, 5)
	needNodes(t, d, "//b[not(c)]", 3, 8)
	needNodes(t, d, "//b[not(c)][not(d)]", 8)
	needNodes(t, d, "//b[not(c and d)]", 1, 3, 8)
	needNodes(t, d, "//b[not(c or d)]", 8)
	needNodes(t, d, "//b[c and not(d) or d and not(c)]", 1, 3)
	needNodes(t, d, "//b[(c or d) and not(c and d)]", 1, 3)
	needNodes(t, d, "a[b[c]]/b[d]", 3, 5)
	needNodes(t, d, "a[b[c][d]]/b[c]/c", 2, 6)
	needNodes(t, d, "a[b[c/e]]/b")
	needNodes(t, d, "a[not(b[e])]/b[*]/*[self::d]", 4, 7)
	needNodes(t, d, "self::node()[a[b[c[not(node())]]]]/a", 0)
	needNodes(t, d, "self::node()[not(a)]/a")
	needNodes(t, d, "//*[.//c and .//d]", 0, 5)
	needNodes(t, d, "//*[not(.//c)]", 2, 3, 4, 6, 7, 8)
	needNodes(t, d, "//*[. and ./. and self::node()]", 0, 1, 2, 3, 4, 5, 6, 7, 8)
	needNodes(t, d, "//*[self::b or self::a[c]]", 1, 3, 5, 8)
	needTrue(t, d, "b", 0)
	needTrue(t, d, "a", -1)
	needTrue(t, d, "not(a)", 0, 1, 2, 3, 4, 5, 6, 7, 8)
	needTrue(t, d, "*/c", 0)
	needTrue(t, d, "*/*/c", -1)
	needTrue(t, d, "descendant::c", -1, 0, 1, 5)
	needTrue(t, d, "descendant-or-self::c", -1, 0, 1, 2, 5, 6)
	needTrue(t, d, "self::*", 0, 1, 2, 3, 4, 5, 6, 7, 8)
	needTrue(t, d, "not(.)")
}

// TestValues: a node's string value, of texts, of elements with and without texts in them, of the root above.
func TestValues(t *testing.T) {
	d := "<a>x<b>y<c/>z</b><b/>w</a>" // 0 a, 1 x, 2 b, 3 y, 4 c, 5 z, 6 b, 7 w
	needTrue(t, d, ". = 'xyzw'", -1, 0)
	needTrue(t, d, ". = 'yz'", 2)
	needTrue(t, d, ". = ''", 4, 6)
	needTrue(t, d, ". != ''", -1, 0, 1, 2, 3, 5, 7)
	needTrue(t, d, "b = ''", 0)
	needTrue(t, d, "b != ''", 0)
	needTrue(t, d, "b = 'yz' and b != 'yz'", 0)
	needTrue(t, d, "text() = 'y'", 2)
	needTrue(t, d, "text() != 'x'", 0, 2)
	needTrue(t, d, "not(text() = 'x')", -1, 1, 2, 3, 4, 5, 6, 7)
	needTrue(t, d, "starts-with(., 'xy')", -1, 0)
	needTrue(t, d, "starts-with(., 'y')", 2, 3)
	needTrue(t, d, "starts-with(., '')", -1, 0, 1, 2, 3, 4, 5, 6, 7)
	needTrue(t, d, "ends-with(., 'z')", 2, 5)
	needTrue(t, d, "ends-with(., 'zw')", -1, 0)
	needTrue(t, d, "contains(., 'yz')", -1, 0, 2)
	needTrue(t, d, "contains(., 'xz')")
	needTrue(t, d, "contains(node(), 'x')", -1, 0)
	needTrue(t, d, "string-length(.) = 4", -1, 0)
	needTrue(t, d, "string-length(.) = 0", 4, 6)
	needTrue(t, d, "string-length(.) > 1", -1, 0, 2)
	needTrue(t, d, "string-length(.) < 1", 4, 6)
	needTrue(t, d, "string-length(.) < 0")
	needTrue(t, d, "string-length(b) = 0", 0)
	needTrue(t, d, "string-length(*) > 3", -1)
	needTrue(t, d, "string-length(node()) < 1", 0, 2)
	needTrue(t, "<a/>", ". = ''", -1, 0)
	needTrue(t, "<é>é<b>\U0001F600</b></é>", "string-length(.) = 2", -1, 0)
	needTrue(t, "<é>é<b>\U0001F600</b></é>", "contains(., 'é\U0001F600')", -1, 0)
	needTrue(t, "<a>1&lt;<!-- 2 -->3<![CDATA[&]]></a>", ". = '1<3&'", -1, 0, 1)
}

func TestAttributes(t *testing.T) {
	d := "<a x='1' y=''>x<b x='2'>y<c y='1'/></b><b x='1'/></a>" // 0 a, 1 x, 2 b, 3 y, 4 c, 5 b
	needTrue(t, d, "@x", 0, 2, 5)
	needTrue(t, d, "@y", 0, 4)
	needTrue(t, d, "@z")
	needTrue(t, d, "not(@x)", -1, 1, 3, 4)
	needTrue(t, d, "@x = '1'", 0, 5)
	needTrue(t, d, "@x != '1'", 2)
	needTrue(t, d, "@y = ''", 0)
	needTrue(t, d, "starts-with(@x, '')", 0, 2, 5)
	needTrue(t, d, "ends-with(@x, '2')", 2)
	needTrue(t, d, "contains(@y, '1')", 4)
	needTrue(t, d, "string-length(@y) = 0", 0)
	needTrue(t, d, "string-length(@y) > 0", 4)
	needTrue(t, d, "string-length(@y) < 1", 0)
	needTrue(t, d, "string-length(@y) < 2", 0, 4)
	needTrue(t, d, "a/@x", -1)
	needTrue(t, d, "b/@x", 0)
	needTrue(t, d, "b/@x = '1' and b/@x != '1'", 0)
	needTrue(t, d, "b/@y")
	needTrue(t, d, ".//@y", -1, 0, 2, 4)
	needTrue(t, d, ".//@y = '1'", -1, 0, 2, 4)
	needTrue(t, d, ".//@y = ''", -1, 0)
	needTrue(t, d, "descendant::node()/@x", -1, 0)
	needTrue(t, d, "text()/@x")
	needTrue(t, d, "self::text()/@x")
	needTrue(t, d, "self::node()/@x", 0, 2, 5)
	needTrue(t, d, "b[c]/@x = '1'")
	needTrue(t, d, "b[not(c)]/@x = '1'", 0)
	needTrue(t, d, "*[@x = '1'][@y]", -1)
	needNodes(t, d, "//*[@x = '2']/*[@y]", 4)
	needNodes(t, d, "//node()[not(@x)]", 1, 3, 4)
	needTrue(t, "<é ü='é'/>", "@ü = 'é'", 0)
	needTrue(t, "<é ü='é'/>", "string-length(@ü) = 1", 0)
	needTrue(t, "<a b='&lt;&#9;&quot;'/>", "@b = '<\t\"'", 0)
}

func TestCompared(t *testing.T) {
	for _, r := range []struct {
		s, text                       string
		equal, begins, ends, contains bool
	}{
		{"", "", true, true, true, true}, {"", "a", false, false, false, false}, {"a", "", false, true, true, true}, {"a", "a", true, true, true, true}, {"a", "b", false, false, false, false},
		{"ab", "a", false, true, false, true}, {"ab", "b", false, false, true, true}, {"a", "ab", false, false, false, false}, {"abc", "b", false, false, false, true}, {"aba", "a", false, true, true, true}, {"aab", "ab", false, false, true, true}, {"ababc", "abc", false, false, true, true}, {"abcab", "ba", false, false, false, false},
		{"é", "\xC3", false, false, false, false}, {"é", "\xA9", false, false, false, false}, {"é", "e\u0301", false, false, false, false}, {"\U0001F600", "\x80", false, false, false, false},
		{"\xFF", "\uFFFD", true, true, true, true}, {"\uFFFD", "\xFE", true, true, true, true}, {"\xE2\x82", "\uFFFD", false, true, true, true}, {"a\xFFb", "\uFFFD", false, false, false, true}, {"\xC3\xA9", "\xC3", false, false, false, false}, {"\xC3", "\xC3", true, true, true, true}, {"\xC3x", "\xA9", false, true, false, true}, {"x\xC3", "\xA9\xA9", false, false, false, false}, {"a\x00", "\x00", false, false, true, true}, {"A", "a", false, false, false, false},
	} {
		for _, number := range []int{0, 1, -1, math.MaxInt} {
			needCompared(t, r.s, api.Exists, r.text, number, true)
			needCompared(t, r.s, api.Equal, r.text, number, r.equal)
			needCompared(t, r.s, api.Unequal, r.text, number, !r.equal)
			needCompared(t, r.s, api.Begins, r.text, number, r.begins)
			needCompared(t, r.s, api.Ends, r.text, number, r.ends)
			needCompared(t, r.s, api.Contains, r.text, number, r.contains)
		}
	}
	for s, length := range map[string]int{"": 0, "a": 1, "é": 1, "\xFF": 1, "\uFFFD": 1, "\xE2\x82": 2, "aé\U0001F600": 3, "a\xFFb": 3, "\xED\xA0\x80": 3, "abc": 3, strings.Repeat("é", 999): 999} {
		for _, number := range []int{math.MinInt, -1, 0, length - 1, length, length + 1, len(s), api.MaxNumber, math.MaxInt} {
			for _, text := range []string{"", "a", s} {
				needCompared(t, s, api.LengthIs, text, number, length == number)
				needCompared(t, s, api.Longer, text, number, length > number)
				needCompared(t, s, api.Shorter, text, number, length < number)
			}
		}
	}
}

// TestComparedAll: each two of many texts, by lists of characters.
func TestComparedAll(t *testing.T) {
	pieces := []string{"", "a", "b", "é", "\uFFFD", "\xFF", "\xC3", "\xA9", "\U0001F600", "\xF0\x9F", "aa", "ab"}
	var texts []string
	for _, one := range pieces {
		for _, two := range pieces {
			texts = append(texts, one+two)
		}
	}
	for _, s := range texts {
		for _, text := range texts {
			for c := api.Exists; c <= api.Shorter; c++ {
				for number := -1; number < 5; number++ {
					needCompared(t, s, c, text, number, plainly(s, c, text, number))
				}
			}
		}
	}
}

func TestComparedKinds(t *testing.T) {
	for _, c := range []api.Compare{-1, 9, 10, 256, -256, math.MinInt, math.MaxInt, math.MinInt32, math.MaxInt32} {
		for _, s := range []string{"", "a", "\xFF"} {
			for _, number := range []int{0, 1, -1} {
				if holds, e := mean.Compared(s, c, s, number); holds || e != api.ErrKind {
					t.Errorf("P12.4: Compared(%q, %d, %q, %d) = %v, %d", s, c, s, number, holds, e)
				}
			}
		}
	}
}

// wrongSteps: those that make a path none, each for one reason.
func wrongSteps() []api.Step {
	return []api.Step{
		{}, child("1"), child("a b"), child("a:b"), child("\xFF"), child("a\xFF"), child("."), child("*"),
		{Test: api.AnyName, Name: "a"}, {Test: api.TextNode, Name: "text"}, {Test: api.AnyNode, Name: "a"},
		{Axis: -1, Name: "a"}, {Axis: 4, Name: "a"}, {Axis: math.MinInt, Name: "a"}, {Test: -1}, {Test: 4}, {Test: 4, Name: "a"}, {Test: math.MaxInt},
	}
}

// wrongExprs: expressions that are none, each for one reason.
func wrongExprs() []api.Expr {
	b := there(child("b"))
	list := []api.Expr{
		{}, {Op: api.Or}, {Op: api.Not}, {Op: api.Some}, {Op: 4}, {Op: -1}, {Op: 4, Path: b.Path}, {Op: math.MaxInt, Args: []api.Expr{b, b}}, allOf(b), oneOf(b), {Op: api.Not, Args: []api.Expr{b, b}},
		{Op: api.And, Args: []api.Expr{b, b}, Path: b.Path}, {Op: api.And, Args: []api.Expr{b, b}, Attr: "a"}, {Op: api.Or, Args: []api.Expr{b, b}, Compare: api.Equal}, {Op: api.Or, Args: []api.Expr{b, b}, Text: "x"}, {Op: api.Not, Args: []api.Expr{b}, Number: 1}, {Op: api.Not, Args: []api.Expr{b}, Path: b.Path},
		allOf(b, api.Expr{}), oneOf(api.Expr{Op: api.Some}, b), no(api.Expr{}), {Op: api.Some, Path: b.Path, Args: []api.Expr{b}}, {Op: api.Some, Attr: "a"}, {Op: api.Some, Args: []api.Expr{b}},
		attr("1"), attr("a b"), attr("*"), attr("\xFF"), attr("@a"),
		withText(b, api.Exists, "x"), withNumber(b, api.Exists, 1), withNumber(b, api.Equal, 1), withText(b, api.LengthIs, "x"), withText(b, 9, ""), withText(b, -1, ""), withText(b, 9, "x"), withNumber(b, math.MaxInt, 7),
		withText(b, api.Equal, `'"`), withText(b, api.Unequal, `"x'`), withText(b, api.Begins, "\xFF"), withText(b, api.Ends, "a\xC3"), withText(b, api.Contains, "\xED\xA0\x80"),
		withNumber(b, api.LengthIs, -1), withNumber(b, api.Longer, api.MaxNumber+1), withNumber(b, api.Shorter, math.MinInt), withNumber(b, api.Longer, math.MaxInt),
		wrapped(api.MaxNested+1, b, no), wrapped(1<<16, b, no), wrapped(1<<16, b, func(x api.Expr) api.Expr { return there(child("a", x)) }), wrapped(1<<16, b, func(x api.Expr) api.Expr { return allOf(x, b) }),
	}
	for _, s := range wrongSteps() {
		list = append(list, there(s), there(child("a"), s), attr("a", s))
	}
	within := []api.Expr{{Op: api.And}, {Op: api.Or}} // a value that holds itself
	within[0].Args, within[1].Args = within, within
	return append(list, within[0])
}

// wrongPaths: of the steps and expressions that are none, at several places.
func wrongPaths() []api.Path {
	list := []api.Path{{}, {Steps: []api.Step{}}}
	for _, s := range wrongSteps() {
		list = append(list, steps(s), steps(child("a"), s), steps(s, child("a")), steps(child("z"), child("z"), s))
	}
	b := there(child("b"))
	for _, x := range wrongExprs() {
		list = append(list, steps(child("a", x)), steps(child("z"), child("z", b, x), child("c")), steps(child("a", there(child("b", x)))), steps(here(no(x))))
	}
	return list
}

// noNumbers: some that are of no node of a tree of so many, and not -1.
func noNumbers(nodes int) []int {
	return []int{-2, -3, nodes, nodes + 1, nodes + 1000, math.MinInt, math.MaxInt, math.MinInt32, math.MaxInt32}
}

// needErrors: From and Holds answer that error, and nothing beside it.
func needErrors(t *testing.T, d *tree.Tree, n int, p api.Path, x api.Expr, want api.Errno) {
	t.Helper()
	if list, e := mean.From(d, n, p); len(list) != 0 || e != want {
		t.Errorf("P12.1: From(%d, %.200v) = %v, %d, want %d", n, shown(p), list, e, want)
	}
	if holds, e := mean.Holds(d, n, x); holds || e != want {
		t.Errorf("P12.3: Holds(%d, %.200v) = %v, %d, want %d", n, shown(steps(here(x))), holds, e, want)
	}
}

// shown: of what is no path just how many steps it has: it may hold itself.
func shown(p api.Path) any {
	if text, e := ask.Print(p); e == api.OK {
		return text
	}
	return len(p.Steps)
}

// TestShape: ErrShape from each node, beside nothing.
func TestShape(t *testing.T) {
	for _, text := range []string{"<a/>", chapters} {
		d := parsed(t, text)
		for _, p := range wrongPaths() {
			if ask.Check(p) != api.ErrShape {
				t.Fatalf("%v is a path", shown(p))
			}
			for n := -1; n < d.Len(); n++ {
				needErrors(t, d, n, p, api.Expr{}, api.ErrShape)
			}
			if list, e := mean.Select(d, p); len(list) != 0 || e != api.ErrShape {
				t.Errorf("P12.2: Select(%v) = %v, %d", shown(p), list, e)
			}
		}
		for _, x := range wrongExprs() {
			for n := -1; n < d.Len(); n++ {
				needErrors(t, d, n, steps(here(x)), x, api.ErrShape)
			}
		}
	}
}

// TestRange: ErrRange, ahead of ErrShape.
func TestRange(t *testing.T) {
	for _, text := range documents() {
		d := parsed(t, text)
		for _, n := range noNumbers(d.Len()) {
			needErrors(t, d, n, query(t, "//node()"), there(here()), api.ErrRange)
			needErrors(t, d, n, steps(here()), attr("a"), api.ErrRange)
			needErrors(t, d, n, api.Path{}, api.Expr{}, api.ErrRange)
		}
	}
	d := parsed(t, chapters)
	for _, n := range noNumbers(d.Len()) {
		for _, p := range wrongPaths() {
			needErrors(t, d, n, p, api.Expr{Op: api.Not}, api.ErrRange)
		}
		for _, x := range wrongExprs() {
			needErrors(t, d, n, steps(), x, api.ErrRange)
		}
	}
}

// TestNil: ErrNil, ahead of all others.
func TestNil(t *testing.T) {
	for _, n := range append(noNumbers(0), -1, 1, 2) {
		needErrors(t, nil, n, query(t, "//node()"), there(here()), api.ErrNil)
		for _, p := range wrongPaths() {
			needErrors(t, nil, n, p, api.Expr{}, api.ErrNil)
		}
		for _, x := range wrongExprs() {
			needErrors(t, nil, n, steps(), x, api.ErrNil)
		}
	}
	for _, p := range append(wrongPaths(), query(t, "a"), query(t, ".")) {
		if list, e := mean.Select(nil, p); len(list) != 0 || e != api.ErrNil {
			t.Errorf("P12.2: Select(nil, %v) = %v, %d", shown(p), list, e)
		}
	}
}

// TestOtherMade: rule 6: of a tree that no maker answered the calls end.
func TestOtherMade(t *testing.T) {
	d := &tree.Tree{}
	for _, q := range queries() {
		mean.Select(d, query(t, q))
		for _, n := range append(noNumbers(0), -1, 1, 2) {
			mean.From(d, n, query(t, q))
			mean.Holds(d, n, there(query(t, q).Steps...))
		}
	}
}

// TestNestedJustSo: as deep as may be: an expression's shape is that of a step's predicate, which is nested one deeper.
func TestNestedJustSo(t *testing.T) {
	d := parsed(t, chapters)
	inStep := func(x api.Expr) api.Expr {
		return there(api.Step{Axis: api.OrSelf, Test: api.AnyNode, Where: []api.Expr{x}})
	}
	inAnd := func(x api.Expr) api.Expr { return allOf(there(here()), x) }
	inOr := func(x api.Expr) api.Expr { return oneOf(there(child("z")), x) }
	for kind, r := range map[string]struct {
		x      api.Expr
		around func(api.Expr) api.Expr
		want   []bool // at 0, of as many as may be and one less
	}{
		"steps": {there(child("c")), inStep, []bool{true, true}},
		"nots":  {there(child("c")), no, []bool{false, true}},
		"ands":  {allOf(there(child("c")), there(here())), inAnd, []bool{true, true}},
		"ors":   {oneOf(there(child("z")), there(child("c"))), inOr, []bool{true, true}},
	} {
		for less, want := range r.want {
			x := wrapped(api.MaxNested-1-less, r.x, r.around)
			if got, e := mean.Holds(d, 0, x); got != want || e != api.OK {
				t.Errorf("P12.3: %s, %d less: %v, %d", kind, less, got, e)
			}
		}
		x := wrapped(api.MaxNested, r.x, r.around)
		needErrors(t, d, 0, steps(here(x)), x, api.ErrShape)
	}
}
