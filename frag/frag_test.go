package frag_test

import (
	"testing"

	"gimlet/api"
	"gimlet/ask"
	"gimlet/frag"
)

// needNormal: P13.1, of a query: its normal form, as layer 11 reads it, in all fields.
func needNormal(t *testing.T, q, want string) {
	t.Helper()
	got, e := frag.Normal(query(t, q))
	if e != api.OK || !ask.Same(got, query(t, want)) {
		t.Errorf("P13.1: %s: %s, %d, want %s", q, shown(got), e, want)
	}
}

func needPath(t *testing.T, p, want api.Path) {
	t.Helper()
	if got, e := frag.Normal(p); e != api.OK || !ask.Same(got, want) {
		t.Errorf("P13.1: %s: %s, %d, want %s", shown(p), shown(got), e, shown(want))
	}
}

// needWhere: P13.1, of predicates.
func needWhere(t *testing.T, where, want string) {
	t.Helper()
	needNormal(t, "z"+where, "z"+want)
	needNormal(t, "z[y"+where+"]", "z[y"+want+"]")
	needNormal(t, "z[not(y"+where+"='1')]", "z[not(y"+want+"='1')]")
}

func needEmpty(t *testing.T, want bool, list ...string) {
	t.Helper()
	for _, q := range list {
		if got, e := frag.Empty(query(t, q)); got != want || e != api.OK {
			t.Errorf("P13.3: Empty(%s) = %v, %d", q, got, e)
		}
	}
}

func needPlain(t *testing.T, want bool, list ...string) {
	t.Helper()
	for _, q := range list {
		if got, e := frag.Plain(query(t, q)); got != want || e != api.OK {
			t.Errorf("P13.2: Plain(%s) = %v, %d", q, got, e)
		}
	}
}

func TestExamples(t *testing.T) {
	for _, r := range [][2]string{
		{"//a", "descendant::a"}, {"/./a/.", "child::a"}, {"a/self::*[b]", "child::a[child::b]"}, {"//.", "descendant-or-self::node()"}, {"//.//a", "descendant::a"},
		{"//self::node()[a]/b", "descendant-or-self::node()[child::a]/child::b"}, {"*/self::a/self::node()[x]", "child::a[child::x]"}, {"a/self::b", "a/self::b"},
		{"a[b and (c and b)][c]", "child::a[child::b][child::c]"}, {"a[not(not(b or (c or b)))]", "child::a[child::b or child::c]"},
		{"a[. and b]", "child::a[child::b]"}, {"a[. or b]", "child::a"}, {"a[not(.) or b]", "child::a[child::b]"}, {"a[b and not(.)]", "child::a[not(.)]"},
		{`a[starts-with(b, "")]`, "child::a[child::b]"}, {"a[contains(@x, '')]", "child::a[@x]"}, {"a[./@x]", "child::a[@x]"}, {`a[.//b/@x="1"]`, `child::a[descendant::b/@x="1"]`},
		{".", "."}, {"text()", "text()"}, {"//text()/a", "descendant::text()/a"},
	} {
		needNormal(t, r[0], r[1])
	}
	needEmpty(t, true, "a/self::b", "a[b and not(.)]", ".", "text()", "//text()/a")
	needEmpty(t, false, "//a", "/./a/.", "//.", "//self::node()[a]/b", "a[. or b]", "a[./@x]")
}

// TestParts: And, Or and predicates: parts of the same kind, alike ones, true ones and false ones.
func TestParts(t *testing.T) {
	for _, r := range [][2]string{
		{"[a and b]", "[a][b]"}, {"[a or b]", "[a or b]"}, {"[b and a]", "[b][a]"}, {"[b or a]", "[b or a]"}, {"[a][b]", "[a][b]"},
		// and in and, or in or
		{"[a and (b and c)]", "[a][b][c]"}, {"[(a and b) and c]", "[a][b][c]"}, {"[(a and b) and (c and d)]", "[a][b][c][d]"}, {"[a and (b and (c and (d and e)))]", "[a][b][c][d][e]"}, {"[a and b][c and d]", "[a][b][c][d]"},
		{"[a or (b or c)]", "[a or b or c]"}, {"[(a or b) or c]", "[a or b or c]"}, {"[(a or b) or (c or d)]", "[a or b or c or d]"}, {"[a or (b or (c or (d or e)))]", "[a or b or c or d or e]"},
		// each in the other
		{"[a and (b or c)]", "[a][b or c]"}, {"[(a or b) and (c or d)]", "[a or b][c or d]"}, {"[a or b and c]", "[a or b and c]"}, {"[a or (b and (c and d))]", "[a or b and c and d]"}, {"[a or (b and (c or d))]", "[a or b and (c or d)]"}, {"[a or (b and c or d)]", "[a or b and c or d]"}, {"[not(a and (b and c))]", "[not(a and b and c)]"}, {"[not(a and (b or c))]", "[not(a and (b or c))]"},
		// those that stand twice
		{"[a and a]", "[a]"}, {"[a or a]", "[a]"}, {"[a][a]", "[a]"}, {"[a and b and a]", "[a][b]"}, {"[b or a or b or a]", "[b or a]"}, {"[a][b][a]", "[a][b]"}, {"[a and b][b and a]", "[a][b]"}, {"[a][b and c][c][a and d]", "[a][b][c][d]"},
		{"[(a or b) and (a or b)]", "[a or b]"}, {"[(a or b) and (b or a)]", "[a or b][b or a]"}, {"[a and b or a and b]", "[a][b]"}, {"[a and b or b and a]", "[a and b or b and a]"}, {"[a or (b or a)]", "[a or b]"}, {"[a and (b and a)]", "[a][b]"}, {"[a or (a or a)]", "[a]"}, {"[not(a) and not(a)]", "[not(a)]"}, {"[a and not(a)]", "[a][not(a)]"}, {"[a or not(a)]", "[a or not(a)]"}, {"[a or not(not(a))]", "[a]"},
		{"[a='1' and a='1']", "[a='1']"}, {"[a='1' and a='2']", "[a='1'][a='2']"}, {"[a='1' and a!='1']", "[a='1'][a!='1']"}, {"[@a and a]", "[@a][a]"}, {"[@a and @b]", "[@a][@b]"}, {"[./@a and @a]", "[@a]"}, {"[child::a and a]", "[a]"}, {"[a and descendant::a]", "[a][descendant::a]"}, {"[.//a and descendant::a]", "[descendant::a]"}, {"[string-length(a)=1 and string-length(a)=01]", "[string-length(a)=1]"}, {"[string-length(a)=1 and string-length(a)=2]", "[string-length(a)=1][string-length(a)=2]"}, {"[a[b][b] and a[b]]", "[a[b]]"}, {"[a[b] and a[b[.]]]", "[a[b]]"}, {"[starts-with(a,'') and a]", "[a]"}, {"[text() and text]", "[text()][text]"}, {"[* and node()]", "[*][node()]"},
		// true ones
		{"[.]", ""}, {"[self::node()]", ""}, {"[./.]", ""}, {"[.][.]", ""}, {"[. and .]", ""}, {"[. or .]", ""}, {"[. and (. and .)]", ""}, {"[. or (. and .)]", ""}, {"[. and a]", "[a]"}, {"[a and .]", "[a]"}, {"[a and . and b]", "[a][b]"}, {"[. and a and . and b and .]", "[a][b]"}, {"[.][a][.]", "[a]"}, {"[a][.][b]", "[a][b]"},
		{"[. or a]", ""}, {"[a or .]", ""}, {"[a or . or b]", ""}, {"[a or (b or .)]", ""}, {"[a or (b and .)]", "[a or b]"}, {"[a and (b or .)]", "[a]"}, {"[(a or .) and (b or .)]", ""}, {"[starts-with(., '')]", ""}, {"[self::node()[self::node()]]", ""}, {"[self::node()[. or a]/.]", ""},
		// false ones
		{"[not(.)]", "[not(.)]"}, {"[not(.)][not(.)]", "[not(.)]"}, {"[not(.) and not(.)]", "[not(.)]"}, {"[not(.) or not(.)]", "[not(.)]"}, {"[not(.) or (not(.) and .)]", "[not(.)]"}, {"[not(.) and a]", "[not(.)]"}, {"[a and not(.)]", "[not(.)]"}, {"[a and not(.) and b]", "[not(.)]"}, {"[not(.) and .]", "[not(.)]"}, {"[. and not(.)]", "[not(.)]"}, {"[not(.)][a]", "[not(.)]"}, {"[a][not(.)]", "[not(.)]"}, {"[a][b and not(.)][c]", "[not(.)]"}, {"[a][.][not(.)][.]", "[not(.)]"},
		{"[not(.) or a]", "[a]"}, {"[a or not(.)]", "[a]"}, {"[a or not(.) or b]", "[a or b]"}, {"[not(.) or a or not(.) or b or not(.)]", "[a or b]"}, {"[not(.) or .]", ""}, {"[. or not(.)]", ""}, {"[a or (b and not(.))]", "[a]"}, {"[a and (b or not(.))]", "[a][b]"}, {"[a and (b and not(.))]", "[not(.)]"}, {"[(a and not(.)) or (b and not(.))]", "[not(.)]"}, {"[not(self::node()/.)]", "[not(.)]"}, {"[not(ends-with(., ''))]", "[not(.)]"},
		// just beside them
		{"[self::*]", "[self::*]"}, {"[not(self::*)]", "[not(self::*)]"}, {"[.//.]", "[descendant-or-self::node()]"}, {"[@a or a]", "[@a or a]"}, {"[.='']", "[.='']"}, {"[.!='' or a]", "[.!='' or a]"}, {"[string-length(.)=0 and a]", "[string-length(.)=0][a]"}, {"[self::node()[a] and b]", "[self::node()[a]][b]"}, {"[node() or a]", "[node() or a]"}, {"[not(node()) and a]", "[not(node())][a]"}, {"[self::node()[not(.)] or a]", "[self::node()[not(.)] or a]"}, {"[not(not(.) or @x)]", "[not(@x)]"},
	} {
		needWhere(t, r[0], r[1])
	}
}

func TestNot(t *testing.T) {
	for _, r := range [][2]string{
		{"[not(a)]", "[not(a)]"}, {"[not(not(a))]", "[a]"}, {"[not(not(not(a)))]", "[not(a)]"}, {"[not(not(not(not(a))))]", "[a]"},
		{"[not(not(.))]", ""}, {"[not(not(not(.)))]", "[not(.)]"}, {"[not(a or .)]", "[not(.)]"}, {"[not(a and not(.))]", ""}, {"[not(. and .)]", "[not(.)]"}, {"[not(not(.) or not(.))]", ""},
		{"[not(not(a) and .)]", "[a]"}, {"[not(not(a) or not(.))]", "[a]"}, {"[not(not(a) and not(a))]", "[a]"}, {"[not(not(a) and not(b))]", "[not(not(a) and not(b))]"}, {"[not(a and a)]", "[not(a)]"},
		{"[not(not(a and b))]", "[a][b]"}, {"[not(not(a or b))]", "[a or b]"}, {"[a and not(not(b and c))]", "[a][b][c]"}, {"[a or not(not(b or c))]", "[a or b or c]"}, {"[a or not(not(b and c))]", "[a or b and c]"}, {"[a and not(not(b or c))]", "[a][b or c]"}, {"[not(not(a)) and a]", "[a]"}, {"[not(a[not(not(b))])]", "[not(a[b])]"},
	} {
		needWhere(t, r[0], r[1])
	}
}

func TestComparisons(t *testing.T) {
	for _, r := range [][2]string{
		{"[starts-with(a,'')]", "[a]"}, {"[ends-with(a,'')]", "[a]"}, {"[contains(a,'')]", "[a]"}, {"[starts-with(@a,'')]", "[@a]"}, {"[ends-with(a/@a,'')]", "[a/@a]"}, {"[contains(.//@a,'')]", "[descendant-or-self::node()/@a]"}, {"[contains(.//b[.],'')]", "[descendant::b]"},
		{"[starts-with(a,' ')]", "[starts-with(a,' ')]"}, {"[ends-with(a,'a')]", "[ends-with(a,'a')]"}, {"[contains(@a,'é')]", "[contains(@a,'é')]"}, {"[starts-with(./a,'x')]", "[starts-with(a,'x')]"}, {"[ends-with(.,'x')]", "[ends-with(.,'x')]"}, {"[contains(.//a,'x')]", "[contains(descendant::a,'x')]"},
		{"[a='']", "[a='']"}, {"[a!='']", "[a!='']"}, {"[.='x']", "[.='x']"}, {"[./././@a!='x']", "[@a!='x']"}, {"[./.!='x']", "[.!='x']"}, {"[.//a='x']", "[descendant::a='x']"},
		{"[string-length(a)=0]", "[string-length(a)=0]"}, {"[string-length(a)<0]", "[string-length(a)<0]"}, {"[string-length(a)>0]", "[string-length(a)>0]"}, {"[string-length(././/a)=3]", "[string-length(descendant::a)=3]"}, {"[string-length(.)=1000000]", "[string-length(.)=1000000]"},
	} {
		needWhere(t, r[0], r[1])
	}
}

// TestSteps: each rule of a path's normal form, alone.
func TestSteps(t *testing.T) {
	for _, r := range [][2]string{
		// those that are left out
		{".", "."}, {"./.", "."}, {"././.", "."}, {"self::node()[.]", "."}, {"./self::node()[.]/self::node()[a or .]", "."}, {"./a", "a"}, {"a/.", "a"}, {"././a/././b/./.", "a/b"}, {"self::node()[.]/a", "a"}, {"a[.]/self::node()[.]/b", "a/b"},
		// those by self, without a step ahead
		{"self::a", "self::a"}, {"./self::a", "self::a"}, {"self::*/a", "self::*/a"}, {"self::text()", "self::text()"}, {"self::node()[a]", "self::node()[a]"}, {"./self::node()[a]/b", "self::node()[a]/b"}, {"self::node()[not(.)]/b", "self::node()[not(.)]/b"},
		// those by self that become one with the step ahead
		{"self::a/self::a", "self::a"}, {"self::a/self::*", "self::a"}, {"self::*/self::a", "self::a"}, {"self::node()[x]/self::a", "self::a[x]"}, {"self::node()[x]/self::node()[y]", "self::node()[x][y]"}, {"a/self::node()[x]", "a[x]"}, {"a[x]/self::a[y]", "a[x][y]"}, {"*[x]/self::a[y]", "a[x][y]"}, {"node()[x]/self::text()[y]", "text()[x][y]"}, {"a/self::*/self::a/self::node()[x]", "a[x]"}, {"node()/self::*/self::a", "a"}, {"//self::a", "descendant-or-self::a"}, {"descendant::node()/self::*", "descendant::*"}, {"text()/self::text()", "text()"}, {"text()/self::node()[.='x']/b", "text()[.='x']/b"},
		// whose predicates stand twice, or hold the false one
		{"a[x]/self::a[x]", "a[x]"}, {"a[x][y]/self::a[y][x]", "a[x][y]"}, {"a[x]/self::*[y and x]/self::node()[z]", "a[x][y][z]"}, {"a[not(.)]/self::a[x]", "a[not(.)]"}, {"a[x]/self::a[not(.)]", "a[not(.)]"}, {"a[x]/self::a[y][not(.)]/self::a[z]", "a[not(.)]"}, {"a[not(.)]/self::a[not(.)]", "a[not(.)]"}, {"a[.]/self::a[.]", "a"},
		// those by self that don't
		{"a/self::b", "a/self::b"}, {"a/self::text()", "a/self::text()"}, {"*/self::text()", "*/self::text()"}, {"text()/self::*", "text()/self::*"}, {"text()/self::a", "text()/self::a"}, {"a/self::b/self::a", "a/self::b/self::a"}, {"a/self::b/self::b", "a/self::b"}, {"a/self::b[x]/self::node()[y]", "a/self::b[x][y]"}, {"a/self::b/self::*", "a/self::b"}, {"a/self::text()/self::b", "a/self::text()/self::b"}, {"a/self::b[x and x]", "a/self::b[x]"}, {"self::a/self::b", "self::a/self::b"}, {"a/self::A", "a/self::A"}, {"//self::a/self::b", "descendant-or-self::a/self::b"},
		// behind a dos
		{"//*", "descendant::*"}, {"//a[x]/b", "descendant::a[x]/b"}, {"a//b", "a/descendant::b"}, {"a//text()", "a/descendant::text()"}, {"//node()", "descendant::node()"}, {"//descendant::a[x]", "descendant::a[x]"}, {"//descendant::node()", "descendant::node()"}, {"//descendant-or-self::a[x]", "descendant-or-self::a[x]"}, {"//.//.", "descendant-or-self::node()"}, {"//.//.//a", "descendant::a"}, {"descendant-or-self::node()[.]/a", "descendant::a"}, {"a//.", "a/descendant-or-self::node()"}, {"a//./self::b", "a/descendant-or-self::b"}, {"//descendant-or-self::node()[x]/a", "descendant-or-self::node()[x]/a"}, {"a[x]//b//c", "a[x]/descendant::b/descendant::c"},
		// just beside a dos
		{"descendant::node()/a", "descendant::node()/a"}, {"descendant-or-self::*/a", "descendant-or-self::*/a"}, {"descendant-or-self::node()[x]/a", "descendant-or-self::node()[x]/a"}, {"node()/a", "node()/a"}, {"descendant-or-self::node()[x]/descendant::a", "descendant-or-self::node()[x]/descendant::a"}, {"descendant::a/descendant-or-self::b", "descendant::a/descendant-or-self::b"}, {"a/descendant-or-self::node()", "a/descendant-or-self::node()"}, {"descendant::a/descendant-or-self::node()/descendant::a", "descendant::a/descendant::a"}, {"//self::*/a", "descendant-or-self::*/a"},
	} {
		needNormal(t, r[0], r[1])
		needPath(t, steps(child("z", attr("x", query(t, r[0]).Steps...))), steps(child("z", attr("x", query(t, r[1]).Steps...))))
	}
	needPath(t, steps(anyBelow(), anyBelow(), child("a")), steps(api.Step{Axis: api.Descendant, Name: "a"}))
	needPath(t, steps(anyBelow(), here(), anyBelow(always())), steps(anyBelow()))
}

// TestSelfBehindAll: a step by self with each test behind each axis with each test, with and without predicates on both.
func TestSelfBehindAll(t *testing.T) {
	x, y := there(child("x")), there(child("y"))
	// by the two tests: a, b, *, text(), node(): the test of the one that they become; -1 where they don't
	together := [5][5]int{
		{0, -1, 0, -1, 0},
		{-1, 1, 1, -1, 1},
		{0, 1, 2, -1, 2},
		{-1, -1, -1, 3, 3},
		{0, 1, 2, 3, 4},
	}
	all := bareSteps("a", "b")
	byTest := func(axis api.Axis, test int) api.Step { return all[5*int(axis)+test] }
	where := func(s api.Step, list ...api.Expr) api.Step {
		s.Where = list
		return s
	}
	for axis := api.Child; axis <= api.Self; axis++ {
		for i, row := range together {
			for j, test := range row {
				one, two := byTest(axis, i), byTest(api.Self, j)
				if test < 0 {
					needPath(t, steps(one, two), steps(one, two))
					needPath(t, steps(where(one, x), where(two, x, x)), steps(where(one, x), where(two, x)))
					needPath(t, steps(one, where(two, never(), x)), steps(one, where(two, never())))
					continue
				}
				joined := byTest(axis, test)
				needPath(t, steps(one, two), steps(joined))
				needPath(t, steps(where(one, x), two), steps(where(joined, x)))
				needPath(t, steps(one, where(two, x)), steps(where(joined, x)))
				needPath(t, steps(where(one, x), where(two, y)), steps(where(joined, x, y)))
				needPath(t, steps(where(one, x, y), where(two, y, x)), steps(where(joined, x, y)))
				needPath(t, steps(where(one, x), where(two, y, never())), steps(where(joined, never())))
				needPath(t, steps(where(one, never()), where(two, y)), steps(where(joined, never())))
				needPath(t, steps(where(one, always()), where(two, always())), steps(joined))
			}
		}
	}
}

// TestAllBehindDos: a dos ahead of each axis with each test, with and without predicates, first and behind another step.
func TestAllBehindDos(t *testing.T) {
	x := there(child("x"))
	for _, s := range bareSteps("a") {
		for _, where := range [][]api.Expr{nil, {x}, {never()}, {always()}} {
			s.Where = where
			want := s
			if len(where) == 1 && ask.Same(steps(here(where...)), steps(here(always()))) {
				want.Where = nil
			}
			switch {
			case s.Axis == api.Child:
				want.Axis = api.Descendant
			case s.Axis == api.Self:
				want.Axis = api.OrSelf
			}
			needPath(t, steps(anyBelow(), s), steps(want))
			needPath(t, steps(anyBelow(), here(), anyBelow(), here(), s), steps(want))
			needPath(t, steps(child("z"), anyBelow(), s), steps(child("z"), want))
			needPath(t, steps(child("z", x, x), anyBelow(always()), s), steps(child("z", x), want))
		}
	}
}

// TestTwoRules: two rules of the paths' behind one another: what each of the pieces becomes alone, and what two of them become together.
func TestTwoRules(t *testing.T) {
	for _, r := range [][2]string{
		// left out, then each
		{"./self::b", "self::b"}, {"a/./self::a", "a"}, {"a/./self::b", "a/self::b"}, {"./descendant-or-self::node()/b", "descendant::b"}, {".//./b", "descendant::b"}, {"././b", "b"},
		// become one, then each
		{"a/self::a/.", "a"}, {"a/self::*/self::a", "a"}, {"*/self::a/self::b", "a/self::b"}, {"a/self::a//b", "a/descendant::b"}, {"a/self::node()[x]/b", "a[x]/b"}, {"//self::node()[x]//b", "descendant-or-self::node()[x]/descendant::b"},
		// put behind by self, then each
		{"a/self::b/.", "a/self::b"}, {"a/self::b/self::b", "a/self::b"}, {"a/self::b/self::a", "a/self::b/self::a"}, {"a/self::b//c", "a/self::b/descendant::c"}, {"a/self::b/c", "a/self::b/c"},
		// in a dos's place, then each
		{"//a/.", "descendant::a"}, {"//a/self::*[x]", "descendant::a[x]"}, {"//a/self::b", "descendant::a/self::b"}, {"//a//b", "descendant::a/descendant::b"}, {"//a/b", "descendant::a/b"}, {"//descendant-or-self::node()/a", "descendant::a"}, {"//descendant-or-self::node()[x]/a", "descendant-or-self::node()[x]/a"}, {"//node()/self::a", "descendant::a"}, {"//descendant::node()/descendant-or-self::node()/descendant-or-self::a", "descendant::node()/descendant-or-self::a"},
		// put behind, then each
		{"a/b/.", "a/b"}, {"a/b/self::*", "a/b"}, {"a/b/self::a", "a/b/self::a"}, {"a/b//c", "a/b/descendant::c"}, {"a/b/c", "a/b/c"}, {"a//.", "a/descendant-or-self::node()"},
		// expressions: and, or, not, some, one in the other
		{"a[not(b and .)]", "a[not(b)]"}, {"a[not(b or not(.))]", "a[not(b)]"}, {"a[not(starts-with(.//b,''))]", "a[not(descendant::b)]"}, {"a[b[c and (d and c)]]", "a[b[c][d]]"}, {"a[b[c or (d or .)]]", "a[b]"}, {"a[b[not(not(c))]]", "a[b[c]]"}, {"a[(b and .) or (c and .)]", "a[b or c]"}, {"a[(b or not(.)) and (c or not(.))]", "a[b][c]"}, {"a[not(not(b) and .) or c]", "a[b or c]"},
		{"a[(b or not(.)) or not(not(c or d))]", "a[b or c or d]"}, {"a[starts-with(.,'') and not(not(ends-with(.,'')))]", "a"}, {"a[self::a[b]/self::node()[b]]", "a[self::a[b]]"}, {"a[self::node()[. or b]]", "a"}, {"a[.//self::node()[b]]", "a[descendant-or-self::node()[b]]"}, {"a[self::node()[.]//.]", "a[descendant-or-self::node()]"},
		// predicates that leave a step bare, and so a step by self or a dos
		{"a/self::node()[b or .]/c", "a/c"}, {"descendant-or-self::node()[not(not(.))]/c", "descendant::c"}, {"descendant-or-self::node()[contains(.,'')][. and .]/self::node()[.]/descendant::c", "descendant::c"}, {"a[b[self::node()[.]/self::node()[c or .]]]", "a[b]"},
	} {
		needNormal(t, r[0], r[1])
	}
}

func TestPlain(t *testing.T) {
	needPlain(t, true, ".", "a", "//a", "a/b//c/text()", "self::node()/self::a", "//.", "descendant::node()", "*/self::text()")
	needPlain(t, false, "a[.]", "a[b]", "a/b[c]", "a[b]/c", "self::node()[.]", "self::node()[.]/a", "a/b/c[not(.)]", "//a[@x]/b", "a/self::node()[b]", "descendant-or-self::node()[. or a]")
}

func TestEmpty(t *testing.T) {
	// a step with the false one
	needEmpty(t, true, "a[not(.)]", "a[not(.)]/b", "a/b[not(.)]", "a/b[c][d and not(.)]/e", "//a[not(b or .)]", "self::node()[not(.)]/a", "a/self::a[not(.)]", "//node()[not(.)]", "descendant-or-self::node()[not(.)]", "a[not(contains(.,''))]")
	needEmpty(t, false, "a[not(b)]", "a[b]/c", "a[not(not(.))]", "a[b[not(.)]]", "a[not(.) or b]", "a[not(self::node()[b])]", "a[not(@x)]", "a[not(.='')]", "a[not(self::*)]", "a[b or c[not(.)]]", "a[self::b]", "a[text()/b]")
	// a step by self that isn't the first
	needEmpty(t, true, "a/self::b", "a/self::text()", "*/self::text()", "//text()/self::*", "//a/self::b/c", "//a/self::*/self::b", "self::node()[x]/a/self::b", "a/b/self::c[x]/d", "//self::a/self::b")
	needEmpty(t, false, "a/self::a", "a/self::*", "*/self::b", "node()/self::a", "//text()/self::node()", "//text()/self::text()", "//self::text()", "//self::a", "a/self::node()[x]", "a/./b", "node()/self::*/self::b")
	// the first step
	needEmpty(t, true, "self::a", "self::*", "self::text()", "self::a/b", "self::*//b", "self::text()/descendant-or-self::node()", "self::node()[x]/self::a/b", ".", "./.", "self::node()[.]", "self::node()[x]", "self::node()[x]/self::node()[y]", "text()", "text()[x]", "./text()", "text()/a", "node()/self::text()", "text()/descendant-or-self::text()")
	needEmpty(t, false, "self::node()[x]/a", "self::node()[x]//.", "a", "*", "node()", "//text()", "descendant::text()", "descendant-or-self::text()", "descendant-or-self::node()", "//self::text()", "a/text()", "node()/text()", "self::node()[x]/text()", "self::node()[x]/descendant::text()", "./a", "descendant-or-self::a")
	// behind a text
	needEmpty(t, true, "//text()/a", "//text()/node()", "//text()/text()", "//text()//a", "//text()/descendant::node()", "a/text()/b", "a/text()[x]/b[y]", "a/node()/self::text()/b", "//text()/./b", "a//text()/descendant::text()", "descendant-or-self::text()/a", "a/b/text()/c/d", "descendant-or-self::text()/descendant::a")
	needEmpty(t, false, "//text()/descendant-or-self::a", "//text()/descendant-or-self::node()", "//text()//.", "//text()/.", "a/text()/descendant-or-self::text()", "//text()", "//text()[x]", "//text()/descendant-or-self::*/a", "a/node()/b", "a/text/b", "a/*/b", "//text()/descendant-or-self::node()[x]/a")
}

// TestShape: ErrShape, and nothing beside it.
func TestShape(t *testing.T) {
	for _, p := range wrongPaths() {
		if ask.Check(p) != api.ErrShape {
			t.Fatalf("%s is a path", shown(p))
		}
		if got, e := frag.Normal(p); e != api.ErrShape || len(got.Steps) > 0 {
			t.Errorf("P13.1: %s: %d, and %d steps", shown(p), e, len(got.Steps))
		}
		if got, e := frag.Plain(p); e != api.ErrShape || got {
			t.Errorf("P13.2: %s: %v, %d", shown(p), got, e)
		}
		if got, e := frag.Empty(p); e != api.ErrShape || got {
			t.Errorf("P13.3: %s: %v, %d", shown(p), got, e)
		}
	}
}
