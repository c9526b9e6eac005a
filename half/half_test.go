package half_test

import (
	"slices"
	"strings"
	"testing"

	"gimlet/api"
	"gimlet/half"
)

// What follows holds the calls against tables that were written by hand. What is known is written as F, U, T.

func letter(v api.Truth) string { return string("FUT"[v]) }

// needVerdicts: P15.2: of each node that was told, in order, what is known of it.
func needVerdicts(t *testing.T, d, q, want string) {
	t.Helper()
	events := begun(t, d)
	got, e := half.Verdicts(events, query(t, q))
	var list []api.Verdict
	for n, c := range want {
		if v := api.Truth(strings.IndexRune("FUT", c)); v != api.False {
			list = append(list, api.Verdict{Number: n, Truth: v})
		}
	}
	if e != api.OK || !slices.Equal(got, list) || len(want) != nodesOf(events) {
		t.Errorf("P15.2: %s of %s: %v, %d, want %s", q, d, got, e, want)
	}
}

func nodesOf(events []api.Event) int {
	n := 0
	for _, e := range events {
		if e.Kind != api.Close {
			n++
		}
	}
	return n
}

// needKnown: P15.1: what is known of an expression at the root above and at each node that was told.
func needKnown(t *testing.T, d, x, want string) {
	t.Helper()
	events := begun(t, d)
	got := ""
	for n := range nodesOf(events) + 1 {
		v, e := half.Holds(events, n-1, expr(t, x))
		if e != api.OK {
			t.Errorf("P15.1: %s of %s at %d: %d", x, d, n-1, e)
			return
		}
		got += letter(v)
	}
	if got != want {
		t.Errorf("P15.1: %s of %s: %s, want %s", x, d, got, want)
	}
}

// needTold: P15.3: number and canonical form of each node, as 1=<b></b>, with spaces between.
func needTold(t *testing.T, d, q, want string) {
	t.Helper()
	got, e := half.Told(begun(t, d), query(t, q))
	if e != api.OK || itemsOf(got) != want {
		t.Errorf("P15.3: %s of %s: %q, %d, want %q", q, d, itemsOf(got), e, want)
	}
}

func itemsOf(list []api.Item) string {
	var all []string
	for _, item := range list {
		all = append(all, string(rune('0'+item.Number))+"="+item.Text)
	}
	return strings.Join(all, " ")
}

func TestExamples(t *testing.T) {
	beginnings := []string{"", "<a>", "<a><b>", "<a><b>x</b", "<a><b>x</b>", "<a><b>x</b><c>", "<a><b>x</b><c/>", chapters}
	all := eventsOf(t, chapters)
	for _, r := range []struct {
		events  int
		q, want string
	}{
		{1, "/a", "T"}, {1, "/a[b]", "U"}, {1, "/a[not(b)]", "U"}, {1, "/a[@x]", "F"},
		{2, "/a[b]", "TF"}, {2, "/a[not(b)]", "FF"}, {2, "/a[b = \"x\"]", "UF"}, {2, "//b[. = \"\"]", "FU"}, {2, "//*[contains(., \"x\")]", "UU"},
		{3, "/a[b = \"x\"]", "UFF"}, {3, "//b[. = \"\"]", "FFF"}, {3, "//*[contains(., \"x\")]", "TTF"},
		{4, "/a[b = \"x\"]/b", "FTF"}, {4, "/a[c]/b", "FUF"},
		{6, "/a[d]/b", "FUFF"}, {6, "/a[not(d)]/b", "FUFF"}, {7, "/a[d]/b", "FFFF"},
	} {
		got, e := half.Verdicts(all[:r.events], query(t, r.q))
		if e != api.OK || lettersOf(got, len(r.want)) != r.want {
			t.Errorf("P15.2: %s of %d events: %v, %d, want %s", r.q, r.events, got, e, r.want)
		}
		if r.events != 3 { // behind the third event the text has come; by bytes only the next tag tells it
			needVerdicts(t, beginnings[r.events], r.q, r.want)
		}
	}
	for _, r := range []struct {
		events  int
		q, want string
	}{
		{1, "/a", ""}, {4, "//b", "1=<b>x</b>"}, {4, "//*", ""}, {4, "//text()", "2=x"}, {6, "/a[c]/b", "1=<b>x</b>"}, {6, "/a[d]/b", ""}, {6, "/a[not(d)]/b", ""},
		{7, "/a[d]/b", ""}, {7, "/a[not(d)]/b", "1=<b>x</b>"}, {7, "self::node()[not(d)]/a", "0=" + "<a><b>x</b><c></c></a>"},
	} {
		got, e := half.Told(all[:r.events], query(t, r.q))
		if e != api.OK || itemsOf(got) != r.want {
			t.Errorf("P15.3: %s of %d events: %v, %d, want %s", r.q, r.events, got, e, r.want)
		}
	}
	for _, r := range []struct {
		n    int
		x    api.Expr
		want api.Truth
		e    api.Errno
	}{
		{-1, there(child("a")), api.True, api.OK}, {0, withText(there(child("b")), api.Equal, "xy"), api.Unknown, api.OK},
		{2, there(api.Step{Axis: api.Self, Test: api.TextNode}), api.True, api.OK}, {3, there(child("a")), api.False, api.ErrRange},
	} {
		if got, e := half.Holds(all[:3], r.n, r.x); got != r.want || e != r.e {
			t.Errorf("P15.1: at %d: %d, %d, want %d, %d", r.n, got, e, r.want, r.e)
		}
	}
}

// lettersOf: of so many nodes.
func lettersOf(list []api.Verdict, nodes int) string {
	all := make([]byte, nodes)
	for i := range all {
		all[i] = 'F'
	}
	for _, v := range list {
		if v.Number < 0 || v.Number >= nodes {
			return "no such node"
		}
		all[v.Number] = letter(v.Truth)[0]
	}
	return string(all)
}

// TestWholeExamples: those of the whole that say when a node is told.
func TestWholeExamples(t *testing.T) {
	needTold(t, "<a>x<b c='é'>y", "//b[@c='é']", "")
	needTold(t, "<a>x<b c='é'>y</b>", "//b[@c='é']", "2=<b c=\"é\">y</b>")
	needTold(t, "<r><a><b/>", "//a[b]", "")
	needTold(t, "<r><a><b/></a>", "//a[b]", "1=<a><b></b></a>")
	needVerdicts(t, "<r><a><b/></a><a>", "//a[b]", "FTFU")
	needVerdicts(t, "<r><a><b/></a><a/>", "//a[b]", "FTFF")
	needTold(t, "<a><b><x/></b>", "//*[x]", "")
	needVerdicts(t, "<a><b><x/></b>", "//*[x]", "UTF")
	needTold(t, "<a><b><x/></b></a>", "//*[x]", "1=<b><x></x></b>")
	needTold(t, "<a><a>t</a>", "//a", "")
	needTold(t, "<a><a>t</a></a>", "//a", "0=<a><a>t</a></a> 1=<a>t</a>")
	needTold(t, "<a><c/>", "a[not(b)]", "")
	needTold(t, "<a><c/></a>", "a[not(b)]", "0=<a><c></c></a>")
	needVerdicts(t, "<a><b/>", "a[not(b)]", "FF")
	needTold(t, "<a>x<!-- -->&#xE9;<![CDATA[<]]></a>", "//text()[contains(., 'é')]", "1=xé&lt;")
}

// TestNoEvents: only the root above is there, and it is open.
func TestNoEvents(t *testing.T) {
	for _, q := range queries() {
		needVerdicts(t, "", q, "")
		needVerdicts(t, " <!-- c --><", q, "")
		needTold(t, "", q, "")
	}
	for x, want := range map[string]string{
		"a": "U", "*": "U", "text()": "U", "node()": "U", ".": "T", ".//.": "T", "self::*": "F", "self::text()": "F", "descendant::a": "U", "descendant-or-self::a": "U", "descendant-or-self::node()": "T", "a/b": "U", "./a": "U", "self::a/b": "F",
		"not(a)": "U", "not(.)": "F", "a and self::a": "F", "a or .": "T", "a and .": "U", "a or self::a": "U", "not(self::a)": "T",
		"@a": "F", "@a = ''": "F", "@a != ''": "F", "a/@a": "U", "*[self::text()]": "U", "*/self::text()": "U", "self::node()[@a]": "F",
		". = ''": "U", ". = 'a'": "U", ". != ''": "U", ". != 'a'": "U", "starts-with(., '')": "T", "starts-with(., 'a')": "U", "ends-with(., '')": "U", "ends-with(., 'a')": "U", "contains(., '')": "T", "contains(., 'a')": "U",
		"string-length(.) = 0": "U", "string-length(.) = 1": "U", "string-length(.) > 0": "U", "string-length(.) < 0": "F", "string-length(.) < 1": "U",
	} {
		needKnown(t, "", x, want)
	}
}

// TestAxes: every axis with every test in an expression: at each node, open, closed, a text.
func TestAxes(t *testing.T) {
	part, whole := "<a>b<c><a>b</a><b>", "<a>b<c><a>b</a><b/></c></a>" // 0 a, 1 "b", 2 c, 3 a, 4 "b", 5 b; of the part 0, 2 and 5 are open

	for x, want := range map[string][2]string{ // from -1, 0 a, 1 "b", 2 c, 3 a, 4 "b", 5 b
		"child::a":                   {"TUFTFFU", "TFFTFFF"},
		"child::c":                   {"UTFUFFU", "FTFFFFF"},
		"child::*":                   {"TTFTFFU", "TTFTFFF"},
		"child::text()":              {"UTFUTFU", "FTFFTFF"},
		"child::node()":              {"TTFTTFU", "TTFTTFF"},
		"descendant::a":              {"TTFTFFU", "TTFTFFF"},
		"descendant::c":              {"TTFUFFU", "TTFFFFF"},
		"descendant::*":              {"TTFTFFU", "TTFTFFF"},
		"descendant::text()":         {"TTFTTFU", "TTFTTFF"},
		"descendant::node()":         {"TTFTTFU", "TTFTTFF"},
		"descendant-or-self::a":      {"TTFTTFU", "TTFTTFF"},
		"descendant-or-self::c":      {"TTFTFFU", "TTFTFFF"},
		"descendant-or-self::*":      {"TTFTTFT", "TTFTTFT"},
		"descendant-or-self::text()": {"TTTTTTU", "TTTTTTF"},
		"descendant-or-self::node()": {"TTTTTTT", "TTTTTTT"},
		"self::a":                    {"FTFFTFF", "FTFFTFF"},
		"self::c":                    {"FFFTFFF", "FFFTFFF"},
		"self::*":                    {"FTFTTFT", "FTFTTFT"},
		"self::text()":               {"FFTFFTF", "FFTFFTF"},
		"self::node()":               {"TTTTTTT", "TTTTTTT"},
		"child::d":                   {"UUFUFFU", "FFFFFFF"},
		"descendant-or-self::A":      {"UUFUFFU", "FFFFFFF"},
	} {
		for i, d := range []string{part, whole} {
			needKnown(t, d, x, want[i])
			needKnown(t, d, "./"+x+"/.", want[i])
			needKnown(t, d, "not(not("+x+"))", want[i])
			needKnown(t, d, "not("+x+")", strings.NewReplacer("F", "T", "T", "F").Replace(want[i]))
		}
	}
}

// TestQueryAxes: every axis with every test as a query's step: nothing of it is Unknown.
func TestQueryAxes(t *testing.T) {
	part, whole := "<a>b<c><a>b</a><b>", "<a>b<c><a>b</a><b/></c></a>"
	for q, want := range map[string]string{
		"child::a": "TFFFFF", "child::c": "FFFFFF", "child::*": "TFFFFF", "child::text()": "FFFFFF", "child::node()": "TFFFFF",
		"descendant::a": "TFFTFF", "descendant::c": "FFTFFF", "descendant::*": "TFTTFT", "descendant::text()": "FTFFTF", "descendant::node()": "TTTTTT",
		"descendant-or-self::a": "TFFTFF", "descendant-or-self::text()": "FTFFTF", "descendant-or-self::node()": "TTTTTT",
		"self::a": "FFFFFF", "self::*": "FFFFFF", "self::text()": "FFFFFF", "self::node()": "FFFFFF",
		"a/child::a": "FFFFFF", "a/child::*": "FFTFFF", "a/child::text()": "FTFFFF", "a/child::node()": "FTTFFF", "a/*/child::node()": "FFFTFT",
		"a/descendant::a": "FFFTFF", "a/descendant::*": "FFTTFT", "a/descendant::text()": "FTFFTF", "a/descendant::node()": "FTTTTT", "*/*/descendant::node()": "FFFTTT",
		"a/descendant-or-self::a": "TFFTFF", "a/descendant-or-self::*": "TFTTFT", "a/c/descendant-or-self::node()": "FFTTTT",
		"a/self::a": "TFFFFF", "a/self::c": "FFFFFF", "//self::c": "FFTFFF", "//self::text()": "FTFFTF", "//.": "TTTTTT", "//a//text()": "FTFFTF", "//a/text()": "FTFFTF", "//c//text()": "FFFFTF", "//text()/.": "FTFFTF", "//text()//.": "FTFFTF", "//text()/node()": "FFFFFF", "//text()//node()": "FFFFFF",
	} {
		needVerdicts(t, part, q, want)
		needVerdicts(t, whole, q, want)
	}
}

// TestComing: each comparison of an element that is open, by the characters that have come; and when it is closed.
func TestComing(t *testing.T) {
	for _, r := range []struct{ came, x, want string }{ // at each beginning of came, then closed
		{"", ".", "TT"}, {"é", ".", "TTT"},
		{"", ". = ''", "UT"}, {"", ". = 'a'", "UF"}, {"a", ". = 'a'", "UUT"}, {"ab", ". = 'a'", "UUFF"}, {"ab", ". = 'abc'", "UUUF"}, {"b", ". = 'a'", "UFF"}, {"é", ". = 'e'", "UFF"}, {"éb", ". = 'éb'", "UUUT"}, {"a", ". = ''", "UFF"},
		{"", ". != ''", "UF"}, {"", ". != 'a'", "UT"}, {"a", ". != 'a'", "UUF"}, {"ab", ". != 'a'", "UUTT"}, {"ab", ". != 'abc'", "UUUT"}, {"b", ". != 'a'", "UTT"}, {"a", ". != ''", "UTT"},
		{"", "starts-with(., '')", "TT"}, {"", "starts-with(., 'a')", "UF"}, {"a", "starts-with(., 'a')", "UTT"}, {"ab", "starts-with(., 'a')", "UTTT"}, {"ab", "starts-with(., 'abc')", "UUUF"}, {"ba", "starts-with(., 'a')", "UFFF"}, {"ac", "starts-with(., 'ab')", "UUFF"},
		{"", "ends-with(., '')", "UT"}, {"a", "ends-with(., '')", "UUT"}, {"", "ends-with(., 'a')", "UF"}, {"a", "ends-with(., 'a')", "UUT"}, {"ba", "ends-with(., 'a')", "UUUT"}, {"ab", "ends-with(., 'a')", "UUUF"},
		{"", "contains(., '')", "TT"}, {"", "contains(., 'a')", "UF"}, {"bab", "contains(., 'a')", "UUTTT"}, {"bcb", "contains(., 'a')", "UUUUF"}, {"aab", "contains(., 'ab')", "UUUTT"}, {"xé", "contains(., 'é')", "UUTT"},
		{"", "string-length(.) = 0", "UT"}, {"a", "string-length(.) = 0", "UFF"}, {"é\U0001F600", "string-length(.) = 2", "UUUT"}, {"éa\U0001F600", "string-length(.) = 2", "UUUFF"}, {"a", "string-length(.) = 2", "UUF"},
		{"", "string-length(.) > 0", "UF"}, {"a", "string-length(.) > 0", "UTT"}, {"é\U0001F600", "string-length(.) > 1", "UUTT"}, {"ab", "string-length(.) > 2", "UUUF"},
		{"", "string-length(.) < 0", "FF"}, {"", "string-length(.) < 1", "UT"}, {"é", "string-length(.) < 1", "UFF"}, {"é\U0001F600", "string-length(.) < 2", "UUFF"}, {"a", "string-length(.) < 2", "UUT"},
	} {
		got := ""
		d := "<r><a>"
		for at, c := range r.came + "." {
			events := begun(t, d+"<!-- -->")
			v, e := half.Holds(events, 1, expr(t, r.x))
			if e != api.OK {
				t.Errorf("P15.1: %s: %d", r.x, e)
			}
			got += letter(v)
			if at == len(r.came) {
				break
			}
			d += string(c) + "<i/>" // the text is told, and parted from the next one
		}
		v, _ := half.Holds(begun(t, d+"</a>"), 1, expr(t, r.x))
		if got += letter(v); got != r.want {
			t.Errorf("P15.1: %s, of %q by and by: %s, want %s", r.x, r.came, got, r.want)
		}
	}
}

// TestValues: string values of what is open and closed and of texts, in one another.
func TestValues(t *testing.T) {
	d := "<a>x<b>y<c/>z</b><b>w<i/>" // 0 a, 1 x, 2 b, 3 y, 4 c, 5 z, 6 b, 7 w, 8 i; 0 and 6 are open; -1, 0: xyzw so far
	needKnown(t, d, ". = 'xyzw'", "UUFFFFFFFF")
	needKnown(t, d, ". = 'xyz'", "FFFFFFFFFF")
	needKnown(t, d, ". = 'yz'", "FFFTFFFFFF")
	needKnown(t, d, ". = 'w'", "FFFFFFFUTF")
	needKnown(t, d, ". != 'w'", "TTTTTTTUFT")
	needKnown(t, d, ". = ''", "FFFFFTFFFT")
	needKnown(t, d, "b = 'yz'", "UTFFFFFUFF")
	needKnown(t, d, "b = 'w'", "UUFFFFFUFF")
	needKnown(t, d, "b != 'yz'", "UTFFFFFUFF")
	needKnown(t, d, "text() = 'w'", "UUFFFFFTFF")
	needKnown(t, d, "text() != 'w'", "UTFTFFFUFF")
	needKnown(t, d, "contains(., 'yz')", "TTFTFFFUFF")
	needKnown(t, d, "contains(., 'zx')", "UUFFFFFUFF")
	needKnown(t, d, "starts-with(., 'xy')", "TTFFFFFFFF")
	needKnown(t, d, "starts-with(., 'y')", "FFFTTFFFFF")
	needKnown(t, d, "ends-with(., 'z')", "UUFTFFTUFF")
	needKnown(t, d, "string-length(.) > 1", "TTFTFFFUFF")
	needKnown(t, d, "string-length(.) = 4", "UUFFFFFUFF")
	needKnown(t, d, "string-length(.) = 3", "FFFFFFFUFF")
	needKnown(t, d, "string-length(.) < 2", "FFTFTTTUTT")
	needKnown(t, d, "string-length(node()) < 1", "UUFTFFFTFF")
	whole := "<a>x<b>y<c/>z</b><b>w<i/></b></a>"
	needKnown(t, whole, ". = 'xyzw'", "TTFFFFFFFF")
	needKnown(t, whole, "contains(., 'zx')", "FFFFFFFFFF")
	needKnown(t, whole, "ends-with(., 'w')", "TTFFFFFTTF")
	needKnown(t, "<a>1&lt;<!-- 2 -->3<![CDATA[&]]></a>", ". = '1<3&'", "TTT")
	needKnown(t, "<a>1&lt;<!-- 2 -->3<![CDATA[&]]><b>", ". = '1<3&'", "UUTU")
}

func TestAttributes(t *testing.T) {
	d := "<a x='1' y=''>x<b x='2'>y<c y='1'/></b><b x='1'>" // 0 a, 1 x, 2 b, 3 y, 4 c, 5 b; 0 and 5 are open
	needKnown(t, d, "@x", "FTFTFFT")
	needKnown(t, d, "@y", "FTFFFTF")
	needKnown(t, d, "@z", "FFFFFFF")
	needKnown(t, d, "not(@x)", "TFTFTTF")
	needKnown(t, d, "@x = '1'", "FTFFFFT")
	needKnown(t, d, "@x != '1'", "FFFTFFF")
	needKnown(t, d, "@y = ''", "FTFFFFF")
	needKnown(t, d, "starts-with(@x, '')", "FTFTFFT")
	needKnown(t, d, "ends-with(@x, '2')", "FFFTFFF")
	needKnown(t, d, "ends-with(@x, '1')", "FTFFFFT")
	needKnown(t, d, "contains(@y, '1')", "FFFFFTF")
	needKnown(t, d, "string-length(@y) = 0", "FTFFFFF")
	needKnown(t, d, "string-length(@y) > 0", "FFFFFTF")
	needKnown(t, d, "string-length(@y) < 2", "FTFFFTF")
	needKnown(t, d, "a/@x", "TUFFFFU")
	needKnown(t, d, "b/@x", "UTFFFFU")
	needKnown(t, d, "b/@y", "UUFFFFU")
	needKnown(t, d, "c/@y = '1'", "UUFTFFU")
	needKnown(t, d, "c/@y = '2'", "UUFFFFU")
	needKnown(t, d, ".//@y", "TTFTFTU")
	needKnown(t, d, "text()/@x", "UUFFFFU")
	needKnown(t, d, "self::text()/@x", "FFFFFFF")
	needKnown(t, d, "self::node()/@x", "FTFTFFT")
	needKnown(t, d, "b[c]/@x = '2'", "UTFFFFU")
	needKnown(t, d, "b[c]/@x = '1'", "UUFFFFU")
	needKnown(t, d, "b[not(c)]/@x = '1'", "UUFFFFU")
	needKnown(t, d, "not(b/@x = '2')", "UFTTTTU")
	needVerdicts(t, d, "//*[@x = '1']", "TFFFFT")
	needVerdicts(t, d, "//*[@x]/*[@y]", "FFFFTF")
	needVerdicts(t, d, "//node()[not(@x)]", "FTFTTF")
	needKnown(t, "<é ü='é'>", "@ü = 'é'", "FT")
	needKnown(t, "<a b='&lt;&#9;&quot;'>", "@b = '<\t\"'", "FT")
}

// TestKinds: and, or, not, of all three values each.
func TestKinds(t *testing.T) {
	values := map[string]string{"self::b": "F", "b": "U", ".": "T"} // at the element a, which is open
	and := map[string]string{"FF": "F", "FU": "F", "FT": "F", "UF": "F", "UU": "U", "UT": "U", "TF": "F", "TU": "U", "TT": "T"}
	or := map[string]string{"FF": "F", "FU": "U", "FT": "T", "UF": "U", "UU": "U", "UT": "T", "TF": "T", "TU": "T", "TT": "T"}
	not := map[string]string{"F": "T", "U": "U", "T": "F"}
	one := func(x, want string) {
		t.Helper()
		v, e := half.Holds(begun(t, "<a>"), 0, expr(t, x))
		if e != api.OK || letter(v) != want {
			t.Errorf("P15.1: %s: %s, %d, want %s", x, letter(v), e, want)
		}
		needVerdicts(t, "<a>", "a["+x+"]", want)
		needVerdicts(t, "<a>", "*["+x+"]/self::a[.]", want)
	}
	for x, a := range values {
		one(x, a)
		one("not("+x+")", not[a])
		one("not(not("+x+"))", a)
		for y, b := range values {
			one(x+" and "+y, and[a+b])
			one(x+" or "+y, or[a+b])
			one("not("+x+" and "+y+")", not[and[a+b]])
			for z, c := range values {
				one(x+" and "+y+" and "+z, and[and[a+b]+c])
				one(x+" or "+y+" or "+z, or[or[a+b]+c])
				one(x+" or "+y+" and "+z, or[a+and[b+c]])
				one("("+x+" or "+y+") and "+z, and[or[a+b]+c])
			}
			needVerdicts(t, "<a>", "a["+x+"]["+y+"]", and[a+b])
		}
	}
}

// TestPredicates: predicates within predicates, and on steps of all places.
func TestPredicates(t *testing.T) {
	d := "<a><b><c/></b><b><d/></b><b><c/>" // 0 a, 1 b, 2 c, 3 b, 4 d, 5 b, 6 c; 0 and 5 are open
	needVerdicts(t, d, "//b[c]", "FTFFFTF")
	needVerdicts(t, d, "//b[d]", "FFFTFUF")
	needVerdicts(t, d, "//b[c and d]", "FFFFFUF")
	needVerdicts(t, d, "//b[c][d]", "FFFFFUF")
	needVerdicts(t, d, "//b[c or d]", "FTFTFTF")
	needVerdicts(t, d, "//b[not(c)]", "FFFTFFF")
	needVerdicts(t, d, "//b[not(d)]", "FTFFFUF")
	needVerdicts(t, d, "a[b[c]]/b[d]", "FFFTFUF")
	needVerdicts(t, d, "a[b[c][d]]/b[c]/c", "FFUFFFU")
	needVerdicts(t, d, "a[not(b[d])]/b", "FFFFFFF")
	needVerdicts(t, d, "a[not(b[e])]/b[*]/*[self::d]", "FFFFUFF")
	needVerdicts(t, d, "a[b[not(c)]]", "TFFFFFF")
	needVerdicts(t, d, "a[b[not(c or d)]]", "UFFFFFF")
	needVerdicts(t, d, "self::node()[a[b[c[not(node())]]]]/a", "TFFFFFF")
	needVerdicts(t, d, "self::node()[not(a)]/a", "FFFFFFF")
	needVerdicts(t, d, "self::node()[not(d)]/a//d", "FFFFUFF")
	needVerdicts(t, d, "//*[.//c and .//d]", "TFFFFUF")
	needVerdicts(t, d, "//*[not(.//c)]", "FFTTTFT")
	needVerdicts(t, d, "//*[d]/*", "FUFUTUU")
	needVerdicts(t, d, "//*[d]//*", "FUUUTUU")
	needVerdicts(t, d, "//*[d]/descendant-or-self::*", "UUUTTUU")
	needVerdicts(t, d, "//*[b]/self::*[d]", "UFFFFUF")
	needVerdicts(t, d+"</b>", "//b[d]", "FFFTFFF")
	needVerdicts(t, d+"</b>", "a[not(b[e])]/b[*]/*[self::d]", "FFFFUFF")
	needVerdicts(t, d+"</b></a>", "a[not(b[e])]/b[*]/*[self::d]", "FFFFTFF")
	needVerdicts(t, d+"</b></a>", "self::node()[not(d)]/a//d", "FFFFTFF")
	needVerdicts(t, d+"</b></a>", "a[b[not(c or d)]]", "FFFFFFF")
	needVerdicts(t, d+"</b></a> <!-- c -->", "//*[d]//*", "FFFFTFF")
}

// TestTelling: what waits for what.
func TestTelling(t *testing.T) {
	d := "<r><a><b>x</b></a><a>y</a><a><b/>" // 0 r, 1 a, 2 b, 3 x, 4 a, 5 y, 6 a, 7 b; 0 and 6 are open
	needTold(t, d, "//b", "2=<b>x</b> 7=<b></b>")
	needTold(t, d, "//a", "1=<a><b>x</b></a> 4=<a>y</a>")
	needTold(t, d, "//a/node()", "2=<b>x</b> 5=y 7=<b></b>")
	needTold(t, d, "//a//node()", "2=<b>x</b> 3=x 5=y 7=<b></b>")
	needTold(t, d, "//a[b]", "1=<a><b>x</b></a>")
	needTold(t, d, "//a[c]/b", "")
	needTold(t, d, "//a[not(c)]/b", "2=<b>x</b>")
	needTold(t, d, "//node()", "")
	needTold(t, d, "//*[b or c or text()]", "")
	needTold(t, d, "/r/*[b or c or text()]", "1=<a><b>x</b></a> 4=<a>y</a>")
	needTold(t, d, "//text()", "3=x 5=y")
	needTold(t, d, "r[z]//text()", "")
	needTold(t, d, "//*[not(.//z)]/text()", "3=x 5=y")
	needTold(t, d, "//node()[.//z or self::text()]", "")
	needTold(t, d, "r/node()[not(b)]", "4=<a>y</a>")
	needTold(t, d, "//a[. = 'y']", "4=<a>y</a>")
	needTold(t, d, "//a[. = 'y' or . = '']", "4=<a>y</a>")
	needTold(t, d, "//a[. = ''] ", "")
	needTold(t, d+"</a>", "//a[. = '']", "6=<a><b></b></a>")
	needTold(t, d+"</a>", "//*[not(z)]", "")
	needTold(t, d+"</a>", "r", "")
	needTold(t, d+"</a></r>", "//*[not(z)]", "0=<r><a><b>x</b></a><a>y</a><a><b></b></a></r> 1=<a><b>x</b></a> 2=<b>x</b> 4=<a>y</a> 6=<a><b></b></a> 7=<b></b>")
	needTold(t, d+"</a></r>", "//node()[.//z or self::text()]", "3=x 5=y")
	needTold(t, "<a b='&lt;&#9;&quot;' a='>'>&#13;&amp;></a>", "a", "0=<a a=\">\" b=\"&lt;&#x9;&quot;\">&#xD;&amp;&gt;</a>")
	needTold(t, "<a b='&lt;&#9;&quot;' a='>'>&#13;&amp;><b>", "a/text()", "1=&#xD;&amp;&gt;")
}
