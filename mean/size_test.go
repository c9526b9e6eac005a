package mean_test

import (
	"math"
	"reflect"
	"slices"
	"strings"
	"testing"
	"time"

	"gimlet/api"
	"gimlet/mean"
	"gimlet/tree"
)

// What follows tries what is great, and whose memory it is.

// within: what is tried ends in a minute.
func within(t *testing.T, try func()) {
	t.Helper()
	done := make(chan struct{})
	go func() {
		defer close(done)
		try()
	}()
	select {
	case <-done:
	case <-time.After(time.Minute):
		t.Fatal("P1: it doesn't end in a minute")
	}
}

// numbers: from the first one to the last one, by steps of so many.
func numbers(from, to, by int) []int {
	var list []int
	for n := from; n <= to; n += by {
		list = append(list, n)
	}
	return list
}

// needMany: P12.2, of many nodes.
func needMany(t *testing.T, d *tree.Tree, q string, want []int) {
	t.Helper()
	got, e := mean.Select(d, query(t, q))
	if e != api.OK || !slices.Equal(got, want) {
		t.Errorf("P12.2: %.80s: %d nodes, %d, want %d", q, len(got), e, len(want))
	}
}

// TestOneNode: all steps and predicates of the least document.
func TestOneNode(t *testing.T) {
	for q, want := range map[string][]int{
		"a": {0}, "b": nil, "*": {0}, "text()": nil, "node()": {0}, "//a": {0}, "//.": {0}, ".": nil, "a/.": {0}, "a/node()": nil, "a//node()": nil, "a/descendant-or-self::node()": {0}, "self::*": nil,
		"a[.]": {0}, "a[not(node())]": {0}, "a[.='']": {0}, "a[@b]": nil, "a[string-length(.)=0]": {0}, "self::node()[.='']/a": {0}, "self::node()[@b]/a": nil, "descendant::node()[not(.!='')]": {0},
	} {
		needNodes(t, "<a/>", q, want...)
		needNodes(t, "<!--c--><a></a> ", q, want...)
	}
	needLed(t, "<a/>", -1, "descendant-or-self::node()", -1, 0)
	needLed(t, "<a/>", 0, "descendant-or-self::node()", 0)
	needLed(t, "<a/>", 0, "descendant::node()")
	needLed(t, "<a/>", 0, "a")
	needTrue(t, "<a/>", "a", -1)
	needTrue(t, "<a b='c'/>", "@b = 'c'", 0)
}

// TestDeep: as many open elements as may be.
func TestDeep(t *testing.T) {
	within(t, func() {
		const deep = api.MaxDepth
		d := parsed(t, strings.Repeat("<a>", deep-1)+"<b>x</b>"+strings.Repeat("</a>", deep-1)) // 0 to deep-2 a, deep-1 b, deep x
		needMany(t, d, "//a", numbers(0, deep-2, 1))
		needMany(t, d, "//a//a", numbers(1, deep-2, 1))
		needMany(t, d, "//node()", numbers(0, deep, 1))
		needMany(t, d, "//a[a]", numbers(0, deep-3, 1))
		needMany(t, d, "//a[.//b]", numbers(0, deep-2, 1))
		needMany(t, d, "//a[b]", []int{deep - 2})
		needMany(t, d, "//*[not(*)]", []int{deep - 1})
		needMany(t, d, "//*[not(.//a)]", []int{deep - 2, deep - 1})
		needMany(t, d, "//*[. = 'x']", numbers(0, deep-1, 1))
		needMany(t, d, "//*[.//text()[contains(., 'x')] and not(@a)]", numbers(0, deep-1, 1))
		needMany(t, d, "//*[string-length(.) > 1]", nil)
		needMany(t, d, "a/a/a", []int{2})
		for _, n := range []int{deep, deep - 1, deep - 2, deep / 2} {
			got, e := mean.From(d, n, query(t, "descendant-or-self::node()"))
			if e != api.OK || !slices.Equal(got, numbers(n, deep, 1)) {
				t.Errorf("P12.1: from %d: %d nodes, %d", n, len(got), e)
			}
		}
		needErrors(t, d, deep+1, steps(here()), there(here()), api.ErrRange)
	})
}

// TestWide: many nodes right in one.
func TestWide(t *testing.T) {
	within(t, func() {
		const wide = 100000
		d := parsed(t, "<a>"+strings.Repeat("x<b y='z'/>", wide)+"</a>") // 0 a, then x and b by turns
		needMany(t, d, "a/text()", numbers(1, 2*wide, 2))
		needMany(t, d, "a/b", numbers(2, 2*wide, 2))
		needMany(t, d, "//b[@y = 'z']", numbers(2, 2*wide, 2))
		needMany(t, d, "//b[@y != 'z']", nil)
		needMany(t, d, "//node()", numbers(0, 2*wide, 1))
		needMany(t, d, "a[b]", []int{0})
		needMany(t, d, "a[string-length(.) = 100000]", []int{0})
		needMany(t, d, "//*[. = '']", numbers(2, 2*wide, 2))
		needMany(t, d, "//node()[. = 'x']", numbers(1, 2*wide, 2))
		needMany(t, d, strings.Repeat("node()/", api.MaxQuery/7-1)+"*", nil)
		for n := 1; n <= 2*wide; n++ {
			if holds, e := mean.Holds(d, n, attr("y")); e != api.OK || holds != (n%2 == 0) {
				t.Errorf("P12.3: at %d: %v, %d", n, holds, e)
				return
			}
		}
	})
}

// TestNestedWide: predicates within predicates are found once for each node, not once for each way to it.
func TestNestedWide(t *testing.T) {
	within(t, func() {
		d := parsed(t, "<a>"+strings.Repeat("<a><a>x<a/></a><a/></a>", 20)+"</a>")
		inside := func(front, middle, back string, n int) string {
			return strings.Repeat(front, n) + middle + strings.Repeat(back, n)
		}
		k := plainOf(d)
		needMany(t, d, inside("descendant::a[", "a", "]", api.MaxNested), nil)
		got, e := mean.From(d, -1, query(t, inside("descendant-or-self::node()[", "self::text()", "]", api.MaxNested)))
		want := k.from(-1, query(t, "descendant-or-self::node()[descendant-or-self::node()/self::text()]"))
		if e != api.OK || !slices.Equal(got, want) || len(want) == 0 {
			t.Errorf("P12.1: nested: %v, %d, want %v", got, e, want)
		}
		needMany(t, d, "//a["+inside("not(.//a or ", "a", ")", api.MaxNested-1)+"]", k.from(-1, query(t, "//a[not(.//a)]")))
		needMany(t, d, "//a"+strings.Repeat("[.//text()]", 5000), k.from(-1, query(t, "//a[.//text()]")))
		needMany(t, d, "//a["+strings.Repeat(".//text() and ", 4000)+"not(text())]", k.from(-1, query(t, "//a[.//text()][not(text())]")))
		needMany(t, d, strings.Repeat(".//", 20000)+"text()", k.from(-1, query(t, "//text()")))
		needMany(t, d, "//a["+strings.Repeat(".//", 20000)+"text()]", k.from(-1, query(t, "//a[.//text()]")))
	})
}

// TestLongPaths: a path may be longer than any query that is read.
func TestLongPaths(t *testing.T) {
	within(t, func() {
		d := parsed(t, chapters)
		dots := slices.Repeat([]api.Step{here()}, 1<<17)
		for n := -1; n < d.Len(); n++ {
			got, e := mean.From(d, n, steps(dots...))
			if e != api.OK || !slices.Equal(got, []int{n}) {
				t.Errorf("P12.1: from %d: %v, %d", n, got, e)
			}
			holds, e := mean.Holds(d, n, there(append(slices.Clip(dots), child("c"))...))
			if e != api.OK || holds != (n == 0) {
				t.Errorf("P12.3: at %d: %v, %d", n, holds, e)
			}
		}
		long := strings.Repeat("é", 1<<17)
		other := parsed(t, "<a>"+long+"<b c='"+long+"'/></a>")
		for _, x := range []api.Expr{withText(there(here()), api.Equal, long), withText(attr("c", child("b")), api.Equal, long), withText(there(here()), api.Contains, long[2:]+"é"), withNumber(attr("c", child("b")), api.LengthIs, 1<<17), withNumber(there(here()), api.Longer, 1<<17-1)} {
			if holds, e := mean.Holds(other, 0, x); !holds || e != api.OK {
				t.Errorf("P12.3: a long text, comparison %d: %v, %d", x.Compare, holds, e)
			}
		}
		if holds, e := mean.Holds(other, 0, withNumber(there(here()), api.Longer, api.MaxNumber)); holds || e != api.OK {
			t.Errorf("P12.3: no million: %v, %d", holds, e)
		}
	})
}

// spoil: writes over a list, its spare room too.
func spoil(list []int) {
	for i := range list[:cap(list)] {
		list[:cap(list)][i] = math.MinInt
	}
}

// TestAnswers: rule 5: what was answered may be written over.
func TestAnswers(t *testing.T) {
	for _, text := range documents() {
		d := parsed(t, text)
		events := d.Events()
		for _, q := range queries() {
			p := query(t, q)
			one, _ := mean.Select(d, p)
			want := slices.Clone(one)
			two, _ := mean.Select(d, p)
			three, _ := mean.From(d, -1, p)
			led := slices.Clone(three)
			spoil(one)
			if !slices.Equal(two, want) || !slices.Equal(three, led) {
				t.Fatalf("rule 5: %s of %s: two answers share memory", q, text)
			}
			spoil(two)
			spoil(three)
			again, _ := mean.Select(d, p)
			more, _ := mean.From(d, -1, p)
			if !slices.Equal(again, want) || !slices.Equal(more, led) || !reflect.DeepEqual(d.Events(), events) {
				t.Fatalf("rule 5: %s of %s: %v behind what was written over, %v ahead", q, text, again, want)
			}
		}
	}
}

// roomy: a copy of the path, each list of which has room for two more, filled.
func roomy(p api.Path) api.Path {
	list := make([]api.Step, 0, len(p.Steps)+2)
	for _, s := range p.Steps {
		s.Where = roomyExprs(s.Where)
		list = append(list, s)
	}
	_ = append(list, child("spare"), child("spare"))
	return api.Path{Steps: list}
}

func roomyExprs(exprs []api.Expr) []api.Expr {
	list := make([]api.Expr, 0, len(exprs)+2)
	for _, x := range exprs {
		x.Path, x.Args = roomy(x.Path), roomyExprs(x.Args)
		list = append(list, x)
	}
	_ = append(list, there(child("spare")), there(child("spare")))
	return list
}

// whole: the path with what stands in its spare room.
func whole(p api.Path) api.Path {
	var list []api.Step
	for _, s := range p.Steps[:cap(p.Steps)] {
		s.Where = wholeExprs(s.Where)
		list = append(list, s)
	}
	return api.Path{Steps: list}
}

func wholeExprs(exprs []api.Expr) []api.Expr {
	var list []api.Expr
	for _, x := range exprs[:cap(exprs)] {
		x.Path, x.Args = whole(x.Path), wholeExprs(x.Args)
		list = append(list, x)
	}
	return list
}

// TestGiven: rule 5: what is handed in is neither changed nor kept, its spare room included.
func TestGiven(t *testing.T) {
	d := parsed(t, chapters)
	for _, q := range queries() {
		plain := query(t, q)
		p := roomy(plain)
		before := whole(p)
		list, e := mean.Select(d, p)
		led, _ := mean.From(d, 0, p)
		holds, _ := mean.Holds(d, -1, api.Expr{Op: api.Some, Path: p})
		if e != api.OK || !reflect.DeepEqual(whole(p), before) {
			t.Fatalf("rule 5: the path of %s was changed, %d", q, e)
		}
		want, _ := mean.Select(d, plain)
		far, _ := mean.From(d, 0, plain)
		some, _ := mean.Holds(d, -1, there(plain.Steps...))
		if !slices.Equal(list, want) || !slices.Equal(led, far) || holds != some {
			t.Fatalf("rule 4: %s: %v and %v, with spare room %v and %v", q, want, far, list, led)
		}
		for i := range p.Steps[:cap(p.Steps)] {
			p.Steps[:cap(p.Steps)][i] = api.Step{Axis: 9}
		}
		if again, _ := mean.Select(d, plain); !slices.Equal(again, want) {
			t.Fatalf("rule 5: %s: an earlier path was kept: %v, want %v", q, again, want)
		}
	}
}

// TestApart: what a call answers hangs on its own tree and path, whatever was asked ahead.
func TestApart(t *testing.T) {
	var want [][]int
	for range 2 {
		at := 0
		for _, text := range documents() {
			d := parsed(t, text)
			for _, q := range queries() {
				list, _ := mean.Select(d, query(t, q))
				mean.Select(d, api.Path{})
				mean.From(d, 99, query(t, q))
				if at == len(want) {
					want = append(want, list)
				} else if !slices.Equal(list, want[at]) {
					t.Fatalf("rule 7: %s of %s: %v, and first %v", q, text, list, want[at])
				}
				at++
			}
		}
	}
}

// TestBuilt: of a tree that was built of events, places don't matter.
func TestBuilt(t *testing.T) {
	for _, text := range documents() {
		d := parsed(t, text)
		events := d.Events()
		for i := range events {
			events[i].From, events[i].To = -i, math.MaxInt
		}
		other, e := tree.Build(events)
		if e != api.OK {
			t.Fatalf("%s: %d", text, e)
		}
		for _, q := range queries() {
			for n := -1; n < d.Len(); n++ {
				one, _ := mean.From(d, n, query(t, q))
				two, e := mean.From(other, n, query(t, q))
				if e != api.OK || !slices.Equal(one, two) {
					t.Fatalf("P12.1: %s of %s: built %v, parsed %v", q, text, two, one)
				}
			}
		}
	}
}
