package ask_test

import (
	"errors"
	"math"
	"reflect"
	"slices"
	"strings"
	"testing"
	"time"

	"gimlet/api"
	"gimlet/ask"
	"gimlet/lexis"
	"gimlet/runes"
)

// placeOf: of the byte at.
func placeOf(q string, at int) api.Place {
	place, _ := runes.At([]byte(q), at)
	return place
}

// firstLine: a place on the first line, all ahead of it having one byte each.
func firstLine(at int) api.Place { return api.Place{Byte: at, Rune: at, Line: 1, Column: at + 1} }

// needPath: P11.1, with the limits of the chapter's examples.
func needPath(t *testing.T, q string, want ...api.Step) api.Path {
	t.Helper()
	got, err := ask.Parse([]byte(q), 1000, 20)
	if err != nil || !reflect.DeepEqual(tidyPath(got), tidyPath(steps(want...))) {
		t.Errorf("P11.1: Parse(%q) = %+v, %v, want %+v", q, got, err, want)
	}
	return got
}

// needGood: P11.1, no fault.
func needGood(t *testing.T, q string, length, nested int) {
	t.Helper()
	if p, err := ask.Parse([]byte(q), length, nested); err != nil || len(p.Steps) == 0 {
		t.Errorf("P11.1: Parse(%.80q, %d, %d) = %d steps, %v", q, length, nested, len(p.Steps), err)
	}
}

// needFault: P11.1, that fault at that place, and nothing beside it.
func needFault(t *testing.T, q string, length, nested int, why api.Errno, at api.Place) {
	t.Helper()
	p, err := ask.Parse([]byte(q), length, nested)
	var f *api.Fault
	if !errors.As(err, &f) || p.Steps != nil {
		t.Errorf("P11.1: Parse(%.80q, %d, %d) = %d steps, %v, want a fault", q, length, nested, len(p.Steps), err)
		return
	}
	if *f != (api.Fault{At: at, Why: why}) || !errors.Is(err, why) || !errors.Is(err, api.ErrQuery) {
		t.Errorf("P11.1: Parse(%.80q, %d, %d): %d at %v, want %d at %v", q, length, nested, f.Why, f.At, why, at)
	}
}

// needGram: ErrGram at that byte, whatever may be nested.
func needGram(t *testing.T, q string, at int) {
	t.Helper()
	needFault(t, q, 1000, 20, api.ErrGram, placeOf(q, at))
}

// needPrint: P11.3, of the path of q.
func needPrint(t *testing.T, q, want string) {
	t.Helper()
	p, err := ask.Parse([]byte(q), 1000, 20)
	if got, e := ask.Print(p); err != nil || got != want || e != api.OK {
		t.Errorf("P11.3: Print of the path of %q = %q, %d, %v, want %q", q, got, e, err, want)
	}
}

func TestExamples(t *testing.T) {
	for _, q := range []string{"a/b", "/a/b", " a / b "} {
		needPath(t, q, child("a"), child("b"))
	}
	needPath(t, "//a", anyDepth(), child("a"))
	needPath(t, ".//*", here(), anyDepth(), api.Step{Test: api.AnyName})
	needPath(t, "and[or]/not/text", child("and", there(child("or"))), child("not"), child("text"))
	needPath(t, "a[@b='x']", child("a", withText(attr("b"), api.Equal, "x")))
	needPath(t, "a[b//@c and not(d or e)]", child("a", allOf(attr("c", child("b"), anyDepth()), no(oneOf(there(child("d")), there(child("e")))))))
	needPath(t, "a[string-length(text()) > 007]", child("a", withNumber(there(api.Step{Test: api.TextNode}), api.Longer, 7)))
	for q, at := range map[string]int{"a[": 2, "": 0, "a[b]]": 4, "a b": 2, "a[/b]": 2, "@a": 0, "a[b='x' = 'y']": 8, "a[not b]": 6, ".[a]": 1, "//a[": 4} {
		needGram(t, q, at)
	}
	needFault(t, "a[(b)]", 1000, 1, api.ErrDeep, firstLine(2))
	needGood(t, "a[text()]", 1000, 1)
	needFault(t, "a[", 1000, 0, api.ErrDeep, firstLine(1))
	needFault(t, "abc", 2, 20, api.ErrLong, firstLine(2))
	needFault(t, "//a[b='ü]", 1000, 20, api.ErrWord, firstLine(6))
	needPrint(t, "//a[ ( b or c ) and d ]", "descendant-or-self::node()/a[(b or c) and d]")
	needPrint(t, "a[ .=\"'\"]/self::node()[@x]", "a[.=\"'\"]/self::node()[@x]")
	p := needPath(t, "a[b[c] and not(@d)]/e", child("a", allOf(there(child("b", there(child("c")))), no(attr("d")))), child("e"))
	size, e := ask.Size(p)
	deep, f := ask.Nested(p)
	if size != 10 || deep != 2 || e != api.OK || f != api.OK {
		t.Errorf("P11.5: Size %d, %d, Nested %d, %d", size, e, deep, f)
	}
}

func TestAxesAndTests(t *testing.T) {
	for axis, a := range []string{"child::", "descendant::", "descendant-or-self::", "self::"} {
		needPath(t, a+"x", api.Step{Axis: api.Axis(axis), Name: "x"})
		needPath(t, a+"*", api.Step{Axis: api.Axis(axis), Test: api.AnyName})
		needPath(t, a+"text()", api.Step{Axis: api.Axis(axis), Test: api.TextNode})
		needPath(t, a+"node ( )", api.Step{Axis: api.Axis(axis), Test: api.AnyNode})
		needPath(t, a+"text", api.Step{Axis: api.Axis(axis), Name: "text"})
		needPath(t, "a[ "+a+" x]", child("a", there(api.Step{Axis: api.Axis(axis), Name: "x"})))
		for _, wrong := range []string{".", "@x", "child::x", "[x]", "/x", "'x'", "7", ""} {
			at := len(a)
			if wrong == "child::x" { // the name is a test's
				at += len("child")
			}
			needGram(t, a+wrong, at)
			needGram(t, "a["+a+wrong, at+2)
		}
	}
	for _, name := range []string{"parent", "following", "attribute", "Child", "x", "text", "node", "not", "and"} {
		needGram(t, name+"::a", len(name))
		needGram(t, "a["+name+"::a]", len(name)+2)
	}
}

// Where a step may begin, a name is a test's, whatever it is.
func TestNamesThatAreWords(t *testing.T) {
	calls := []string{"not", "starts-with", "ends-with", "contains", "string-length"}
	for _, name := range languageNames() {
		n := len(name)
		needPath(t, name, child(name))
		needPath(t, "/"+name+"/"+name, child(name), child(name))
		needPath(t, "//"+name+"//"+name, anyDepth(), child(name), anyDepth(), child(name))
		needPath(t, "self::"+name, api.Step{Axis: api.Self, Name: name})
		needPath(t, name+"["+name+"]", child(name, there(child(name))))
		needPath(t, "a[@"+name+"]", child("a", attr(name)))
		needPath(t, "a["+name+"/@"+name+"='x']", child("a", withText(attr(name, child(name)), api.Equal, "x")))
		needPath(t, "a["+name+" and "+name+" or "+name+"]", child("a", oneOf(allOf(there(child(name)), there(child(name))), there(child(name)))))
		needPath(t, "a[not("+name+")]", child("a", no(there(child(name)))))
		needPath(t, "a[contains("+name+",'"+name+"')]", child("a", withText(there(child(name)), api.Contains, name)))
		needGram(t, "@"+name, 0)
		needGram(t, "a[@"+name+"()]", n+3)
		needGram(t, "a[@"+name+"::b]", n+3)
		if name == "text" || name == "node" {
			needGram(t, name+"(b)", n+1)
			needGram(t, "a["+name+"(", n+3)
			continue
		}
		needGram(t, name+"()", n)
		needGram(t, "a/"+name+"(b)", n+2)
		needGram(t, "a[b/"+name+"(c)]", n+4)
		needGram(t, "a[contains("+name+"(c),'x')]", n+11)
		if !slices.Contains(calls, name) {
			needGram(t, "a["+name+"(b)]", n+2)
		} else {
			needGram(t, "a["+name+"()]", n+3)
		}
	}
	// An operator may be a name, and a bracket stand right behind an operator.
	and, or := there(child("and")), there(child("or"))
	needPath(t, "a[and and and or or or or]", child("a", oneOf(allOf(and, and), or, or)))
	needPath(t, "a[or or or]", child("a", oneOf(or, or)))
	needPath(t, "a[b and or or and]", child("a", oneOf(allOf(there(child("b")), or), and)))
	needPath(t, "a[(b)and(c)or(d)]", child("a", oneOf(allOf(there(child("b")), there(child("c"))), there(child("d")))))
	needGram(t, "a[and(b)]", 5)
	needGram(t, "a[b and]", 7)
	needGram(t, "a[b not(c)]", 4)
	needGram(t, "a[b AND c]", 4)
}

func TestSlashesAndAttributes(t *testing.T) {
	needPath(t, "/a", child("a"))
	needPath(t, "/.", here())
	needPath(t, "a//b/c", child("a"), anyDepth(), child("b"), child("c"))
	needPath(t, "//.", anyDepth(), here())
	needPath(t, "././/.", here(), here(), anyDepth(), here())
	needPath(t, "/descendant-or-self::node()/a", anyDepth(), child("a"))
	needPath(t, "a[.]", child("a", there(here())))
	needPath(t, "a[.//b]", child("a", there(here(), anyDepth(), child("b"))))
	needPath(t, "a[@b]", child("a", attr("b")))
	needPath(t, "a[./@b]", child("a", attr("b")))
	needPath(t, "a[.//@b]", child("a", attr("b", here(), anyDepth())))
	needPath(t, "a[b/c/@d]", child("a", attr("d", child("b"), child("c"))))
	needPath(t, "a[b[c]/@d][@e]", child("a", attr("d", child("b", there(child("c")))), attr("e")))
	for q, at := range map[string]int{
		"/": 1, "//": 2, "a/": 2, "a//": 3, "///a": 2, "/ /a": 2, "// //a": 3, "a///b": 3, "a/ /b": 3, "a/@b": 2, "a//@b": 3, "/@b": 1, "//@b": 2, "a@b": 1,
		"a[/]": 2, "a[//b]": 2, "a[//@b]": 2, "a[/@b]": 2, "a[b/]": 4, "a[b//]": 5, "a[b@c]": 3, "a[@]": 3, "a[@*]": 3, "a[@'x']": 3, "a[@@b]": 3, "a[@b/c]": 4, "a[@b//c]": 4, "a[b/@c/d]": 6, "a[b/@c[d]]": 6, "a[@b[c]]": 4, "a[@b@c]": 4, "a[@text()]": 7, "a[@self::b]": 7,
		"not(/b)": 3, "a[not(/b)]": 6, "a[contains(//b,'x')]": 11, "a[(/b)]": 3, "a[b and /c]": 8,
	} {
		needGram(t, q, at)
	}
}

func TestComparisons(t *testing.T) {
	for _, c := range []struct {
		text string
		x    api.Expr
	}{{".", there(here())}, {"b", there(child("b"))}, {"@b", attr("b")}, {"b//@c", attr("c", child("b"), anyDepth())}, {"b[c]", there(child("b", there(child("c"))))}, {"text()", there(api.Step{Test: api.TextNode})}} {
		needPath(t, "a["+c.text+"]", child("a", c.x))
		needPath(t, "a["+c.text+"='x']", child("a", withText(c.x, api.Equal, "x")))
		needPath(t, "a["+c.text+` != "it's"]`, child("a", withText(c.x, api.Unequal, "it's")))
		needPath(t, "a[starts-with("+c.text+",'')]", child("a", withText(c.x, api.Begins, "")))
		needPath(t, "a[ends-with("+c.text+`, '"')]`, child("a", withText(c.x, api.Ends, `"`)))
		needPath(t, "a[contains ( "+c.text+" , '\x00é\n' ) ]", child("a", withText(c.x, api.Contains, "\x00é\n")))
		needPath(t, "a[string-length("+c.text+")=0]", child("a", withNumber(c.x, api.LengthIs, 0)))
		needPath(t, "a[string-length("+c.text+") > 1000000]", child("a", withNumber(c.x, api.Longer, api.MaxNumber)))
		needPath(t, "a[string-length("+c.text+")<007]", child("a", withNumber(c.x, api.Shorter, 7)))
	}
	for q, at := range map[string]int{
		"a[b=]": 4, "a[b=c]": 4, "a[b=7]": 4, "a[b='x'='y']": 7, "a[b='x'c]": 7, "a[b=='x']": 4, "a[b!='x'!='y']": 8, "a[b<'x']": 3, "a[b>7]": 3, "a['x'=b]": 2, "a['x']": 2, "a[7]": 2, "a[=]": 2, "a='x'": 1, "a!='x'": 1,
		"a[(b)='x']": 5, "a[not(b)='x']": 8, "a[contains(b,'x')='y']": 17, "a[string-length(b)=7=7]": 20, "a[string-length(b)=7 7]": 21, "a[string-length(b)]": 18, "a[string-length(b)!=7]": 18, "a[string-length(b)='x']": 19, "a[string-length(b)=c]": 19, "a[string-length(b,'x')]": 17, "a[string-length()=7]": 16, "a[string-length(b='x')=7]": 17, "a[string-length('x')=1]": 16,
		"a[contains(b)]": 12, "a[contains(b 'x')]": 13, "a[contains(b,c)]": 13, "a[contains(b,7)]": 13, "a[contains('x',b)]": 11, "a[contains(b,'x','y')]": 16, "a[contains(,'x')]": 11, "a[contains(b='y','x')]": 12, "a[contains((b),'x')]": 11, "a[contains(b and c,'x')]": 13, "a[contains(b,'x'": 16, "a[contains(b,'x')": 17, "a[contains(b,": 13, "a[contains(b": 12, "a[contains(": 11, "a[contains": 10,
		"a[not()]": 6, "a[not(b]": 7, "a[not(b,c)]": 7, "a[not(b) c]": 9, "a[not not(b)]": 6, "a[()]": 3, "a[(b]": 4, "a[b)]": 3, "a[(b))]": 5, "a[]": 2, "a[b,c]": 3, "a[b][": 5, "a[b]c": 4, "a[b]'x'": 4, "a[b](c)": 4, "(a)": 0, "a(b)": 1, "[a]": 0, "a/[b]": 2, "a]": 1, "a)": 1, "a[b or]": 6, "a[or b]": 5, "a[b and or c]": 11,
		"a[.[b]]": 3, "./.[b]": 3, "a .": 2, "*a": 1, "a*": 1, "**": 1, "..": 1, ". a": 2, "a or b": 2, "a and b": 2, "7": 0, "'x'": 0, ",": 0, "<": 0, ">a": 0, "::a": 0, "*::a": 1, ".::a": 1,
	} {
		needGram(t, q, at)
	}
}

func TestExpressions(t *testing.T) {
	b, c, d := there(child("b")), there(child("c")), there(child("d"))
	for q, want := range map[string]api.Expr{
		"b": b, "(b)": b, "((( b )))": b, "b or c": oneOf(b, c), "b and c": allOf(b, c), "b or c or d": oneOf(b, c, d), "b and c and d": allOf(b, c, d),
		"b or c and d": oneOf(b, allOf(c, d)), "b and c or d": oneOf(allOf(b, c), d), "(b or c) and d": allOf(oneOf(b, c), d), "b and (c or d)": allOf(b, oneOf(c, d)),
		"(b or c) or d": oneOf(oneOf(b, c), d), "b or (c or d)": oneOf(b, oneOf(c, d)), "(b and c) and d": allOf(allOf(b, c), d), "b and (c and d)": allOf(b, allOf(c, d)), "(b and c) or d": oneOf(allOf(b, c), d),
		"((b or c))": oneOf(b, c), "(b) or (c)": oneOf(b, c), "((b) and c)": allOf(b, c), "not(b)": no(b), "not((b))": no(b), "(not(b))": no(b), "not(not(b))": no(no(b)), "not(b or c and d)": no(oneOf(b, allOf(c, d))),
		"not(b) and not(c) or not(d)": oneOf(allOf(no(b), no(c)), no(d)), "b or b": oneOf(b, b),
	} {
		needPath(t, "a["+q+"]", child("a", want))
		needPath(t, "a[x]["+q+"]/e", child("a", there(child("x")), want), child("e"))
		needPath(t, "a[e["+q+"]]", child("a", there(child("e", want))))
		needPath(t, "a[not("+q+")]", child("a", no(want)))
	}
}

func TestPrintedForms(t *testing.T) {
	for q, want := range map[string]string{
		"/a/b": "a/b", "child::a": "a", "self::a": "self::a", "descendant::*": "descendant::*", "descendant-or-self::text()": "descendant-or-self::text()", "node()": "node()", "self::node()": ".", "self :: node ( ) [ a ]": "self::node()[a]", "self::*": "self::*", "//.": "descendant-or-self::node()/.",
		"a[ b ][ c ]": "a[b][c]", "a[./@b]": "a[@b]", "a[self::node()/@b]": "a[@b]", "a[././@b]": "a[././@b]", "a[.//@b]": "a[./descendant-or-self::node()/@b]", "a[self::node()[c]/@b]": "a[self::node()[c]/@b]", "a[self::*/@b]": "a[self::*/@b]",
		"a[b='x']": `a[b="x"]`, "a[b='']": `a[b=""]`, "a[b = '\"']": `a[b='"']`, `a[b!="'"]`: `a[b!="'"]`, "a[@b != 'x']": `a[@b!="x"]`,
		"a[starts-with( b , 'x' )]": `a[starts-with(b,"x")]`, "a[ends-with(@b,'x')]": `a[ends-with(@b,"x")]`, "a[contains(.,'\"')]": `a[contains(.,'"')]`, "a[contains(b/@c,'x')]": `a[contains(b/@c,"x")]`,
		"a[string-length( . ) = 007]": "a[string-length(.)=7]", "a[string-length(@b)>0]": "a[string-length(@b)>0]", "a[string-length(b/@c) < 1000000]": "a[string-length(b/@c)<1000000]",
		"a[b  and\nc]": "a[b and c]", "a[b or (c and d)]": "a[b or c and d]", "a[b or (c or d)]": "a[b or (c or d)]", "a[(b and c) and d]": "a[(b and c) and d]", "a[b and (c or d)]": "a[b and (c or d)]", "a[(((b or c)))]": "a[b or c]", "a[not( (b or c) )]": "a[not(b or c)]", "a[not(b) and (not(c))]": "a[not(b) and not(c)]", "a[((b and c) or d) and e]": "a[(b and c or d) and e]", "a[(b='x')or(c)]": `a[b="x" or c]`,
	} {
		needPrint(t, q, want)
		needPrint(t, want, want)
	}
}

func TestLengths(t *testing.T) {
	for _, length := range []int{0, -1, -5, math.MinInt32, math.MinInt} {
		needFault(t, "a", length, 20, api.ErrLong, firstLine(0))
		needFault(t, "", length, 20, api.ErrGram, firstLine(0))
	}
	needGood(t, "a/b", 3, 20)
	needGood(t, "a/b", 4, 20)
	needFault(t, "a/b", 2, 20, api.ErrLong, firstLine(2))
	needFault(t, "a/b ", 3, 20, api.ErrLong, firstLine(3))
	// Ahead of all else that is wrong, and at a byte's place, also within a character or a line's end.
	needFault(t, "\xFF\xFF", 1, 20, api.ErrLong, firstLine(1))
	needFault(t, "a[[+'", 2, 0, api.ErrLong, firstLine(2))
	needFault(t, "é/ü", 1, 20, api.ErrLong, api.Place{Byte: 1, Rune: 1, Line: 1, Column: 2})
	needFault(t, "é/ü", 2, 20, api.ErrLong, api.Place{Byte: 2, Rune: 1, Line: 1, Column: 2})
	needFault(t, "a\r\nb", 2, 20, api.ErrLong, api.Place{Byte: 2, Rune: 2, Line: 1, Column: 3})
	needFault(t, "a\r\nb", 3, 20, api.ErrLong, api.Place{Byte: 3, Rune: 3, Line: 2, Column: 1})
	needFault(t, "a\r.", 2, 20, api.ErrLong, api.Place{Byte: 2, Rune: 2, Line: 2, Column: 1})
	// No limit is above MaxQuery.
	longest := "a" + strings.Repeat(" ", api.MaxQuery-1)
	for _, length := range []int{api.MaxQuery, api.MaxQuery + 1, 70000, math.MaxInt32, math.MaxInt} {
		needGood(t, longest, length, 20)
		needFault(t, longest+" ", length, 20, api.ErrLong, firstLine(api.MaxQuery))
		needFault(t, strings.Repeat("\n", api.MaxQuery+9), length, 20, api.ErrLong, api.Place{Byte: api.MaxQuery, Rune: api.MaxQuery, Line: api.MaxQuery + 1, Column: 1})
	}
	needFault(t, longest, api.MaxQuery-1, 20, api.ErrLong, firstLine(api.MaxQuery-1))
}

// Faults of words are those of layer 10, and come ahead of those of the grammar; the places count lines and characters.
func TestFaultsOfWords(t *testing.T) {
	for _, q := range []string{"a[\xFF", "b] ! a", "]]+", "a[b='x]", "a[[[[\n'", "1000001", "a 3b", "(:", "é\xE2\x82", "a/\xED\xA0\x80", "'\"", "a\r\n/é!b", "+\xFF"} {
		_, err := lexis.Words([]byte(q))
		var f *api.Fault
		if !errors.As(err, &f) {
			t.Fatalf("%q: %v", q, err)
		}
		for _, nested := range []int{0, 1, 20} {
			needFault(t, q, 1000, nested, f.Why, f.At)
		}
	}
	needFault(t, "é[\r\n'ü' ]", 1000, 20, api.ErrGram, api.Place{Byte: 5, Rune: 4, Line: 2, Column: 1})
	needFault(t, "é[\r", 1000, 20, api.ErrGram, api.Place{Byte: 4, Rune: 3, Line: 2, Column: 1})
	needFault(t, "é/ \n ", 1000, 20, api.ErrGram, api.Place{Byte: 6, Rune: 5, Line: 2, Column: 2})
	needFault(t, " \t", 1000, 20, api.ErrGram, firstLine(2))
	needFault(t, "é\n[é[b]]", 1000, 1, api.ErrDeep, api.Place{Byte: 6, Rune: 4, Line: 2, Column: 3})
}

// nests: queries nested just n deep, by kinds; n is 1 at the least.
func nests(n int) map[string]string {
	between := func(front, middle, back string, n int) string {
		return strings.Repeat(front, n) + middle + strings.Repeat(back, n)
	}
	list := map[string]string{
		"steps":       between("a[", "b", "]", n),
		"steps, text": between("a[", "text()", "]", n),
		"steps, node": between("a[", "node()/@b", "]", n),
	}
	if n > 1 {
		list["brackets"] = "a[" + between("(", "b", ")", n-1) + "]"
		list["nots"] = "a[" + between("not(", "b", ")", n-1) + "]"
		list["ands"] = "a[" + between("b and (", "b and c", ")", n-1) + "]"
		list["ors"] = "a[" + between("(", "b or c", ") or b", n-1) + "]"
		list["contains"] = between("a[", "contains(text(),'(')", "]", n-1)
		list["length"] = between("a[", "string-length(@b)=7", "]", n-1)
		list["length of a path"] = "a[string-length(" + between("b[", "c", "]", n-2) + ")>7]"
	}
	return list
}

func TestNestedJustSo(t *testing.T) {
	for _, n := range []int{1, 2, 3, 20, 199, api.MaxNested} {
		for kind, q := range nests(n) {
			if nestedText(q) != n {
				t.Fatalf("%s: %d, not %d", kind, nestedText(q), n)
			}
			needGood(t, q, api.MaxQuery, n)
			needGood(t, q, api.MaxQuery, n+1)
			needGood(t, q, api.MaxQuery, math.MaxInt)
			// The last bracket that counts is the one that is too deep for one less.
			words := wordsOf(q)
			around, counts := depths(words)
			for i := range words {
				if counts[i] && around[i] == n-1 {
					needFault(t, q, api.MaxQuery, n-1, api.ErrDeep, words[i].At)
					break
				}
			}
			p, _ := ask.Parse([]byte(q), api.MaxQuery, n)
			deep, e := ask.Nested(p)
			want := n
			if kind == "brackets" { // Print leaves them out
				want = 1
			}
			if deep != want || e != api.OK {
				t.Errorf("P11.5: %s, %d: Nested %d, %d", kind, n, deep, e)
			}
			judgeShape(t, p)
		}
	}
	for kind, q := range nests(api.MaxNested + 1) {
		words := wordsOf(q)
		around, counts := depths(words)
		for i := range words {
			if counts[i] && around[i] == api.MaxNested {
				for _, nested := range []int{api.MaxNested, api.MaxNested + 1, 999, math.MaxInt32, math.MaxInt} {
					needFault(t, q, api.MaxQuery, nested, api.ErrDeep, words[i].At)
				}
			}
		}
		if t.Failed() {
			t.Fatal(kind)
		}
	}
	for _, nested := range []int{0, -1, -20, math.MinInt32, math.MinInt} {
		needFault(t, "a[b]", 1000, nested, api.ErrDeep, firstLine(1))
		needFault(t, "a[", 1000, nested, api.ErrDeep, firstLine(1))
		needFault(t, "a(", 1000, nested, api.ErrGram, firstLine(1))
		needFault(t, "[", 1000, nested, api.ErrGram, firstLine(0))
		needFault(t, ".[", 1000, nested, api.ErrGram, firstLine(1))
		needGood(t, "text()/node()/child::text()", 1000, nested)
		needFault(t, "text(", 1000, nested, api.ErrGram, firstLine(5))
		needFault(t, "text((", 1000, nested, api.ErrGram, firstLine(5))
	}
	// At the limit a bracket that stands wrong is that, and none that is closed counts.
	needFault(t, "a[@b[", 1000, 1, api.ErrGram, firstLine(4))
	needFault(t, "a[b(", 1000, 1, api.ErrGram, firstLine(3))
	needFault(t, "a[text(][", 1000, 1, api.ErrGram, firstLine(7))
	needFault(t, "a[not(", 1000, 1, api.ErrDeep, firstLine(5))
	needFault(t, "a[b and (", 1000, 1, api.ErrDeep, firstLine(8))
	needFault(t, "a[starts-with(]", 1000, 1, api.ErrDeep, firstLine(13))
	needFault(t, "a[b]]a[(", 1000, 1, api.ErrGram, firstLine(4))
	needGood(t, strings.Repeat("a[b][c]/", 100)+"d", 1000, 1)
	needFault(t, strings.Repeat("a[b][c]/", 100)+"d[(e)]", 1000, 1, api.ErrDeep, firstLine(802))
	needGood(t, "a[(b)][(c) and (d) or not(e)]", 1000, 2)
}

// wrapped: x within that many of what around makes.
func wrapped(n int, x api.Expr, around func(api.Expr) api.Expr) api.Expr {
	for range n {
		x = around(x)
	}
	return x
}

// P11.2, how deep Print's text is nested, of paths that aren't parsed.
func TestPathsNestedJustSo(t *testing.T) {
	b := there(child("b"))
	inStep := func(x api.Expr) api.Expr { return there(child("a", x)) }
	inAnd := func(x api.Expr) api.Expr { return allOf(b, x) }
	inOr := func(x api.Expr) api.Expr { return oneOf(x, b) }
	for kind, around := range map[string]func(api.Expr) api.Expr{"steps": inStep, "nots": no, "ands": inAnd, "ors": inOr, "ands of ors": func(x api.Expr) api.Expr { return inAnd(inOr(x)) }} {
		first := b
		switch kind {
		case "ands":
			first = allOf(b, b)
		case "ors":
			first = oneOf(b, b)
		}
		for _, inner := range []struct {
			x    api.Expr
			more int
		}{{first, 0}, {no(b), 1}, {inStep(b), 1}, {withText(b, api.Equal, "("), 0}, {withText(b, api.Ends, "("), 1}, {withNumber(attr("c"), api.Shorter, 7), 1}, {attr("c"), 0}, {there(api.Step{Test: api.TextNode}), 0}} {
			for _, n := range []int{0, 1, 2, 50, 198, 199, 200, 201} {
				p := steps(child("a", wrapped(n, inner.x, around)))
				want := nestedText(plainly(p))
				deep, e := ask.Nested(p)
				if want <= api.MaxNested && (deep != want || e != api.OK || ask.Check(p) != api.OK) {
					t.Errorf("P11.5: %s, %d, %d more: Nested %d, %d, want %d", kind, n, inner.more, deep, e, want)
				}
				if want > api.MaxNested && (deep != 0 || e != api.ErrShape || ask.Check(p) != api.ErrShape) {
					t.Errorf("P11.2: %s, %d, %d more: nested %d deep, and Nested %d, %d", kind, n, inner.more, want, deep, e)
				}
			}
		}
	}
}

func TestPathsThatAreNone(t *testing.T) {
	b := there(child("b"))
	wrong := []api.Path{
		{}, steps(), steps(api.Step{}), steps(child("a"), api.Step{}), steps(child("")), steps(child("1")), steps(child("a b")), steps(child("a:b")), steps(child("\xFF")), steps(child("a\xFF")), steps(child(".")), steps(child("*")), steps(child("text()")),
		steps(api.Step{Test: api.AnyName, Name: "a"}), steps(api.Step{Test: api.TextNode, Name: "text"}), steps(api.Step{Test: api.AnyNode, Name: "a"}), steps(api.Step{Axis: -1, Name: "a"}), steps(api.Step{Axis: 4, Name: "a"}), steps(api.Step{Test: 4}), steps(api.Step{Test: -1}), steps(api.Step{Test: 4, Name: "a"}), steps(api.Step{Axis: math.MinInt, Test: math.MaxInt}),
	}
	for _, x := range []api.Expr{
		{}, {Op: api.Or}, {Op: api.Not}, {Op: api.Some}, {Op: 4}, {Op: -1}, {Op: 4, Path: b.Path}, allOf(b), oneOf(b), {Op: api.Not, Args: []api.Expr{b, b}},
		{Op: api.And, Args: []api.Expr{b, b}, Path: b.Path}, {Op: api.And, Args: []api.Expr{b, b}, Attr: "a"}, {Op: api.Or, Args: []api.Expr{b, b}, Compare: api.Equal}, {Op: api.Or, Args: []api.Expr{b, b}, Text: "x"}, {Op: api.Not, Args: []api.Expr{b}, Number: 1}, {Op: api.Not, Args: []api.Expr{b}, Path: b.Path},
		allOf(b, api.Expr{}), oneOf(api.Expr{Op: api.Some}, b), no(api.Expr{}), {Op: api.Some, Path: b.Path, Args: []api.Expr{b}}, {Op: api.Some, Attr: "a"}, {Op: api.Some, Args: []api.Expr{b}},
		attr("1"), attr("a b"), attr("*"), attr("\xFF"), attr("@a"), there(api.Step{}), there(child("a"), api.Step{}),
		withText(b, api.Exists, "x"), withNumber(b, api.Exists, 1), withNumber(b, api.Equal, 1), withText(b, api.LengthIs, "x"), withText(b, 9, ""), withText(b, -1, ""), withText(b, 9, "x"), withNumber(b, math.MaxInt, 7),
		withText(b, api.Equal, `'"`), withText(b, api.Unequal, `"x'`), withText(b, api.Begins, "\xFF"), withText(b, api.Ends, "a\xC3"), withText(b, api.Contains, "\xED\xA0\x80"),
		withNumber(b, api.LengthIs, -1), withNumber(b, api.Longer, api.MaxNumber+1), withNumber(b, api.Shorter, math.MinInt), withNumber(b, api.Longer, math.MaxInt),
	} {
		wrong = append(wrong, steps(child("a", x)), steps(child("a", b, x), child("c")), steps(child("a", there(child("b", x)))), steps(child("a", no(x))), steps(child("a", allOf(b, oneOf(b, x)))))
	}
	for _, p := range wrong {
		if judgeShape(t, p) {
			t.Errorf("P11.2: %+v is a query's path", p)
		}
	}
	for _, p := range []api.Path{steps(here()), steps(anyDepth()), steps(child("\uFFFD")), steps(child("and")), steps(child("a", withText(b, api.Equal, "\x00\uFFFF'"))), steps(child("a", withText(b, api.Equal, `""`))), steps(child("a", withNumber(b, api.Longer, api.MaxNumber))), steps(child("a", withNumber(b, api.Shorter, 0))), {Steps: []api.Step{{Name: "a", Where: []api.Expr{}}}}} {
		if !judgeShape(t, p) {
			t.Errorf("P11.2: %+v is no query's path", p)
		}
	}
}

// Values that are nested as deep as may be given, or hold themselves: none is a query's path.
func TestPathsNestedFar(t *testing.T) {
	b := there(child("b"))
	inStep := func(x api.Expr) api.Expr { return there(child("a", x)) }
	const far = 1 << 16
	for kind, around := range map[string]func(api.Expr) api.Expr{
		"steps": inStep, "nots": no, "ands": func(x api.Expr) api.Expr { return allOf(x, b) }, "ors": func(x api.Expr) api.Expr { return oneOf(b, x) },
		"of one part": func(x api.Expr) api.Expr { return allOf(x) }, "no kind": func(x api.Expr) api.Expr { return api.Expr{Op: 7, Args: []api.Expr{x}} },
	} {
		p, q, r := steps(child("a", wrapped(far, b, around))), steps(child("a", wrapped(far, b, around))), steps(child("a", wrapped(far, there(child("c")), around)))
		text, e := ask.Print(p)
		size, f := ask.Size(p)
		deep, g := ask.Nested(p)
		if ask.Check(p) != api.ErrShape || e != api.ErrShape || f != api.ErrShape || g != api.ErrShape || text != "" || size != 0 || deep != 0 {
			t.Errorf("P11.2: %s: %d, %d, %d, %d", kind, ask.Check(p), e, f, g)
		}
		if !ask.Same(p, q) || !ask.Same(p, p) || ask.Same(p, r) || ask.Same(r, p) {
			t.Errorf("P11.6: %s, nested far", kind)
		}
	}
	for _, list := range [][]api.Expr{{{Op: api.And}, {Op: api.And}}, {{Op: api.Or}, {Op: api.And}}, {{Op: api.And}, {Op: api.Or}}, {{Op: api.Not}}} {
		for i := range list {
			list[i].Args = list
		}
		if p := steps(child("a", list[0])); ask.Check(p) != api.ErrShape {
			t.Errorf("P11.2: a value that holds itself: %d", ask.Check(p))
		}
	}
	where := []api.Expr{there(child("a"))}
	where[0].Path.Steps[0].Where = where
	if p := steps(child("a", where...)); ask.Check(p) != api.ErrShape {
		t.Errorf("P11.2: a step that holds itself: %d", ask.Check(p))
	}
}

func TestSame(t *testing.T) {
	none, empty := api.Path{}, api.Path{Steps: []api.Step{}}
	if !ask.Same(none, empty) || !ask.Same(empty, none) || !ask.Same(none, none) {
		t.Error("P11.6: nil and empty steps")
	}
	bare := steps(child("a", api.Expr{Op: api.Some}))
	full := api.Path{Steps: []api.Step{{Name: "a", Where: []api.Expr{{Op: api.Some, Args: []api.Expr{}, Path: empty}}}}}
	if !ask.Same(bare, full) || !ask.Same(full, bare) {
		t.Error("P11.6: nil and empty lists within")
	}
	if a, b := steps(child("a")), (api.Path{Steps: []api.Step{{Name: "a", Where: []api.Expr{}}}}); !ask.Same(a, b) || !ask.Same(b, a) {
		t.Error("P11.6: nil and empty predicates")
	}
	// What is behind a list's end is not of it, and texts are alike byte by byte.
	room := []api.Step{child("a"), child("b")}
	if !ask.Same(steps(room[:1]...), steps(child("a"))) || ask.Same(steps(room...), steps(room[:1]...)) || ask.Same(steps(room[:1]...), none) {
		t.Error("P11.6: lists of unlike lengths")
	}
	for _, two := range [][2]api.Path{
		{steps(child("\xFF")), steps(child("\uFFFD"))}, {steps(child("\xFF")), steps(child("\xFE"))}, {steps(child("a"), child("b")), steps(child("b"), child("a"))}, {steps(here()), steps(child("."))},
		{steps(child("a", there(child("b")), there(child("c")))), steps(child("a", allOf(there(child("b")), there(child("c")))))}, {steps(child("a", attr("b"))), steps(child("a", there(child("b"))))},
	} {
		if ask.Same(two[0], two[1]) || ask.Same(two[1], two[0]) || !ask.Same(two[0], two[0]) || !ask.Same(two[1], two[1]) {
			t.Errorf("P11.6: %+v", two)
		}
	}
	// Any two of many, by what Print writes.
	var list []api.Path
	for _, q := range wholeQueries() {
		p, _ := ask.Parse([]byte(q), 1000, 20)
		list = append(list, p)
	}
	for i, p := range list {
		for j, q := range list {
			if ask.Same(p, q) != (i == j) {
				t.Errorf("P11.6: Same of %q and %q", wholeQueries()[i], wholeQueries()[j])
			}
		}
	}
}

// span: the memory of a list, its spare room too.
type span struct{ from, to uintptr }

// spans: of all lists in v.
func spans(v reflect.Value) []span {
	var list []span
	switch v.Kind() {
	case reflect.Struct:
		for i := range v.NumField() {
			list = append(list, spans(v.Field(i))...)
		}
	case reflect.Slice:
		if v.Cap() > 0 {
			list = append(list, span{v.Pointer(), v.Pointer() + uintptr(v.Cap())*v.Type().Elem().Size()})
		}
		for i := range v.Len() {
			list = append(list, spans(v.Index(i))...)
		}
	}
	return list
}

// spoil: writes over all lists in v, their spare room too.
func spoil(v reflect.Value) {
	switch v.Kind() {
	case reflect.Struct:
		for i := range v.NumField() {
			spoil(v.Field(i))
		}
	case reflect.Slice:
		for i := range v.Len() {
			spoil(v.Index(i))
		}
		room := v.Slice(0, v.Cap())
		for i := range room.Len() {
			switch x := room.Index(i).Addr().Interface().(type) {
			case *api.Step:
				*x = api.Step{Axis: 9, Name: "spoilt"}
			case *api.Expr:
				*x = api.Expr{Op: 9, Text: "spoilt"}
			}
		}
	}
}

// P11.7: what is answered shares no memory, within it or with what is given; what is written over changes no later answer.
func TestMemory(t *testing.T) {
	for _, q := range wholeQueries() {
		room := []byte(q + "/spare")
		first, err := ask.Parse(room[:len(q)], 1000, 20)
		second, _ := ask.Parse([]byte(q), 1000, 20)
		if err != nil || string(room) != q+"/spare" {
			t.Fatalf("P11.7: Parse(%q) changed it: %q, %v", q, room, err)
		}
		all := append(spans(reflect.ValueOf(first)), spans(reflect.ValueOf(second))...)
		slices.SortFunc(all, func(a, b span) int { return int(int64(a.from) - int64(b.from)) })
		for i := range all[1:] {
			if all[i].to > all[i+1].from {
				t.Errorf("P11.7: two lists of what Parse(%q) answers share memory", q)
			}
		}
		for i := range room {
			room[i] = '#'
		}
		if !ask.Same(first, second) {
			t.Errorf("P11.7: the path of %q changed with the query", q)
		}
		text, _ := ask.Print(first)
		spoil(reflect.ValueOf(&first).Elem())
		third, _ := ask.Parse([]byte(q), 1000, 20)
		if again, _ := ask.Print(third); !ask.Same(second, third) || again != text {
			t.Errorf("P11.7: the path of %q changed with an earlier one", q)
		}
	}
	_, err := ask.Parse([]byte("a["), 1000, 20)
	var f *api.Fault
	if !errors.As(err, &f) {
		t.Fatal(err)
	}
	*f = api.Fault{}
	needGram(t, "a[", 2)
}

// What is handed in is as it was, its spare room too.
func TestPathsStay(t *testing.T) {
	for _, q := range wholeQueries() {
		p, _ := ask.Parse([]byte(q), 1000, 20)
		room := append(slices.Clone(p.Steps), child("spare"), child("spare"))
		given := api.Path{Steps: room[:len(p.Steps)]}
		before := tidyPath(api.Path{Steps: room})
		ask.Check(given)
		ask.Print(given)
		ask.Size(given)
		ask.Nested(given)
		ask.Same(given, p)
		if !reflect.DeepEqual(tidyPath(api.Path{Steps: room}), before) {
			t.Errorf("P11.7: the path of %q was changed", q)
		}
	}
}

// A query's path may have a text that is longer than MaxQuery.
func TestLongPaths(t *testing.T) {
	start := time.Now()
	b := there(child("b"))
	many := func(x api.Expr) []api.Expr { return slices.Repeat([]api.Expr{x}, 1<<16) }
	for kind, p := range map[string]api.Path{
		"steps": {Steps: slices.Repeat([]api.Step{child("a")}, 1<<17)}, "predicates": steps(child("a", many(b)...)), "parts": steps(child("a", oneOf(many(allOf(b, b))...))),
		"a text": steps(child("a", withText(b, api.Equal, strings.Repeat("é'", 1<<17)))), "a name": steps(child(strings.Repeat("é", 1<<17))), "nested": steps(child("a", no(allOf(many(no(b))...)))),
	} {
		text, e := ask.Print(p)
		size, f := ask.Size(p)
		deep, g := ask.Nested(p)
		if e != api.OK || f != api.OK || g != api.OK || ask.Check(p) != api.OK || text != plainly(p) || size != countPath(p) || !ask.Same(p, p) {
			t.Errorf("P11.3: %s: %d bytes, %d steps and expressions, nested %d deep", kind, len(text), size, deep)
		}
		needFault(t, text, math.MaxInt, math.MaxInt, api.ErrLong, placeOf(text, api.MaxQuery))
	}
	for _, piece := range []string{"a/", "a[b]/", ".//", "a[b and c or d]//", "a[not(b)]/", "a[contains(.,'x')]/\n", "text()/"} {
		q := strings.Repeat(piece, api.MaxQuery/len(piece)-1) + "a"
		p, err := ask.Parse([]byte(q), len(q), 20)
		text, e := ask.Print(p)
		if err != nil || e != api.OK || text != plainly(p) {
			t.Errorf("P11.1: %q many times: %v", piece, err)
		}
		needFault(t, q+"]", api.MaxQuery, 20, api.ErrGram, placeOf(q, len(q)))
	}
	if took := time.Since(start); took > time.Minute {
		t.Errorf("long paths took %v", took)
	}
}
