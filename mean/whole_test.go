package mean_test

import (
	"slices"
	"strings"
	"testing"

	"gimlet/api"
	"gimlet/ask"
	"gimlet/mean"
	"gimlet/tree"
)

// What follows holds the calls against the document's own words, followed as they stand: from a set of nodes each step leads to those nodes of all to which its axis leads from one of them; what is in what is found by going up through the parents; an expression is asked of each node on its own.

// plain is a document as its events say it is.
type plain struct {
	nodes   []api.Event // its Open or its Text
	parents []int
}

func plainOf(t *tree.Tree) *plain {
	k := &plain{}
	open := []int{-1}
	for _, e := range t.Events() {
		if e.Kind == api.Close {
			open = open[:len(open)-1]
			continue
		}
		k.nodes = append(k.nodes, e)
		k.parents = append(k.parents, open[len(open)-1])
		if e.Kind == api.Open {
			open = append(open, e.Number)
		}
	}
	return k
}

// isIn: m is in n, however deep.
func (k *plain) isIn(m, n int) bool {
	for m >= 0 {
		m = k.parents[m]
		if m == n {
			return true
		}
	}
	return false
}

// leads: the axis leads from n to m.
func (k *plain) leads(n int, a api.Axis, m int) bool {
	switch a {
	case api.Child:
		return m >= 0 && k.parents[m] == n
	case api.Descendant:
		return k.isIn(m, n)
	case api.OrSelf:
		return m == n || k.isIn(m, n)
	}
	return m == n
}

func (k *plain) meets(m int, s api.Step) bool {
	if m < 0 {
		return s.Test == api.AnyNode
	}
	e := k.nodes[m]
	switch s.Test {
	case api.Named:
		return e.Kind == api.Open && e.Name == s.Name
	case api.AnyName:
		return e.Kind == api.Open
	case api.TextNode:
		return e.Kind == api.Text
	}
	return true
}

// from: P12.1.
func (k *plain) from(n int, p api.Path) []int {
	set := []int{n}
	for _, s := range p.Steps {
		var next []int
		for m := -1; m < len(k.nodes); m++ {
			isLed := slices.ContainsFunc(set, func(last int) bool { return k.leads(last, s.Axis, m) })
			fails := func(x api.Expr) bool { return !k.holds(m, x) }
			if isLed && k.meets(m, s) && !slices.ContainsFunc(s.Where, fails) {
				next = append(next, m)
			}
		}
		set = next
	}
	return set
}

// holds: P12.3.
func (k *plain) holds(n int, x api.Expr) bool {
	switch x.Op {
	case api.And:
		for _, part := range x.Args {
			if !k.holds(n, part) {
				return false
			}
		}
		return true
	case api.Or:
		return slices.ContainsFunc(x.Args, func(part api.Expr) bool { return k.holds(n, part) })
	case api.Not:
		return !k.holds(n, x.Args[0])
	}
	for _, m := range k.from(n, x.Path) {
		if k.compares(m, x) {
			return true
		}
	}
	return false
}

// compares: P12.5, at a node to which the path leads.
func (k *plain) compares(m int, x api.Expr) bool {
	if x.Attr == "" {
		return plainly(k.value(m), x.Compare, x.Text, x.Number)
	}
	if m < 0 {
		return false
	}
	for _, a := range k.nodes[m].Attrs {
		if a.Name == x.Attr {
			return plainly(a.Value, x.Compare, x.Text, x.Number)
		}
	}
	return false
}

// value: the characters of all texts in it, or its own.
func (k *plain) value(n int) string {
	var out strings.Builder
	for m, e := range k.nodes {
		if m == n || k.isIn(m, n) {
			out.WriteString(e.Text)
		}
	}
	return out.String()
}

// plainly: P12.4, by lists of characters.
func plainly(s string, c api.Compare, text string, number int) bool {
	a, b := []rune(s), []rune(text)
	same := func(at int) bool {
		return at >= 0 && at+len(b) <= len(a) && slices.Equal(a[at:at+len(b)], b)
	}
	switch c {
	case api.Equal:
		return slices.Equal(a, b)
	case api.Unequal:
		return !slices.Equal(a, b)
	case api.Begins:
		return same(0)
	case api.Ends:
		return same(len(a) - len(b))
	case api.Contains:
		for at := range len(a) + 1 {
			if same(at) {
				return true
			}
		}
		return false
	case api.LengthIs:
		return len(a) == number
	case api.Longer:
		return len(a) > number
	case api.Shorter:
		return len(a) < number
	}
	return true
}

// needFrom: P12.1, from one node; whether it leads anywhere.
func needFrom(t *testing.T, d *tree.Tree, k *plain, n int, p api.Path) bool {
	t.Helper()
	got, e := mean.From(d, n, p)
	if want := k.from(n, p); e != api.OK || !slices.Equal(got, want) {
		form, _ := d.Print(0)
		text, _ := ask.Print(p)
		t.Fatalf("P12.1: %s: From(%d, %s) = %v, %d, want %v", form, n, text, got, e, want)
	}
	return len(got) > 0
}

// needSelect: P12.2.
func needSelect(t *testing.T, d *tree.Tree, k *plain, p api.Path) {
	t.Helper()
	got, e := mean.Select(d, p)
	want := slices.DeleteFunc(k.from(-1, p), func(n int) bool { return n < 0 })
	if e != api.OK || !slices.Equal(got, want) {
		form, _ := d.Print(0)
		text, _ := ask.Print(p)
		t.Fatalf("P12.2: %s: Select(%s) = %v, %d, want %v", form, text, got, e, want)
	}
}

// needHolds: P12.3, of one node; what it is.
func needHolds(t *testing.T, d *tree.Tree, k *plain, n int, x api.Expr) bool {
	t.Helper()
	got, e := mean.Holds(d, n, x)
	if e != api.OK || got != k.holds(n, x) {
		form, _ := d.Print(0)
		text, _ := ask.Print(steps(here(x)))
		t.Fatalf("P12.3: %s: %s at %d: %v, %d", form, text, n, got, e)
	}
	return got
}

// tally counts how often something held, so that a test that tries nothing is seen.
type tally struct{ yes, no int }

func (c *tally) add(holds bool) {
	if holds {
		c.yes++
	} else {
		c.no++
	}
}

func (c *tally) need(t *testing.T, least int) {
	t.Helper()
	if c.yes < least || c.no < least {
		t.Errorf("only %d held, %d didn't", c.yes, c.no)
	}
}

// TestAllShort: all paths of one step and of two, from each node of all short documents.
func TestAllShort(t *testing.T) {
	t.Parallel()
	var c tally
	bare := bareSteps("a", "b")
	for _, text := range shorts(4) {
		d := parsed(t, text)
		k := plainOf(d)
		for _, one := range bare {
			needSelect(t, d, k, steps(one))
			for n := -1; n < d.Len(); n++ {
				c.add(needFrom(t, d, k, n, steps(one)))
			}
			for _, two := range bare {
				c.add(needFrom(t, d, k, -1, steps(one, two)))
			}
		}
	}
	c.need(t, 1000)
}

// TestThreeSteps: all paths of three steps without names.
func TestThreeSteps(t *testing.T) {
	t.Parallel()
	var c tally
	d := parsed(t, "<a>b<c><a>b</a></c>d</a>")
	k := plainOf(d)
	bare := bareSteps("a")
	for _, one := range bare {
		for _, two := range bare {
			for _, three := range bare {
				c.add(needFrom(t, d, k, -1, steps(one, two, three)))
			}
		}
	}
	c.need(t, 500)
}

// comparisons: x with each comparison, of several texts and numbers.
func comparisons(x api.Expr) []api.Expr {
	list := []api.Expr{x}
	for _, text := range []string{"", "a", "b", "ab", "é"} {
		for c := api.Equal; c <= api.Contains; c++ {
			list = append(list, withText(x, c, text))
		}
	}
	for number := range 4 {
		for c := api.LengthIs; c <= api.Shorter; c++ {
			list = append(list, withNumber(x, c, number))
		}
	}
	return list
}

// TestComparisons: each comparison behind each step, with and without an attribute, at each node.
func TestComparisons(t *testing.T) {
	t.Parallel()
	var c tally
	for _, text := range documents() {
		d := parsed(t, text)
		k := plainOf(d)
		for _, s := range bareSteps("a", "é") {
			for _, x := range slices.Concat(comparisons(there(s)), comparisons(attr("a", s)), comparisons(attr("b", s))) {
				for n := -1; n < d.Len(); n++ {
					c.add(needHolds(t, d, k, n, x))
				}
			}
		}
	}
	c.need(t, 10000)
}

// TestPredicatesOnSteps: each predicate of some on each of two steps, alone, and two behind one another.
func TestPredicatesOnSteps(t *testing.T) {
	t.Parallel()
	var c tally
	d := parsed(t, "<a a='b'>b<b><a>b</a>a</b><a a='a'/></a>")
	k := plainOf(d)
	bare := bareSteps("a")
	var list []api.Expr
	for _, s := range bare {
		list = append(list, there(s), no(there(s)), attr("a", s), withText(there(s), api.Equal, "b"))
	}
	for _, x := range list {
		for _, s := range bare {
			s.Where = []api.Expr{x}
			for _, other := range []api.Step{here(), child("a"), {Axis: api.OrSelf, Test: api.AnyNode}} {
				c.add(needFrom(t, d, k, -1, steps(s, other)))
				c.add(needFrom(t, d, k, -1, steps(other, s)))
				c.add(needFrom(t, d, k, 0, steps(other, s, other)))
			}
		}
		for _, y := range list {
			s := api.Step{Axis: api.OrSelf, Test: api.AnyNode, Where: []api.Expr{x, y}}
			c.add(needFrom(t, d, k, -1, steps(s)))
			needHolds(t, d, k, 0, allOf(x, y))
			needHolds(t, d, k, 0, oneOf(x, y))
			needHolds(t, d, k, 0, there(api.Step{Axis: api.Descendant, Test: api.AnyNode, Where: []api.Expr{x, y}}))
		}
	}
	c.need(t, 500)
}

// TestByChance: paths and expressions of all kinds, nested, of documents of all kinds, from each node.
func TestByChance(t *testing.T) {
	t.Parallel()
	var c, h tally
	for seed := range uint64(1500) {
		m := newMaker(seed)
		d := parsed(t, m.document())
		k := plainOf(d)
		for range 6 {
			p, x := m.path(2), m.expr(2)
			needSelect(t, d, k, p)
			for n := -1; n < d.Len(); n++ {
				c.add(needFrom(t, d, k, n, p))
				h.add(needHolds(t, d, k, n, x))
			}
		}
	}
	c.need(t, 5000)
	h.need(t, 5000)
}

// TestQueries: of each document each query.
func TestQueries(t *testing.T) {
	t.Parallel()
	var c tally
	for _, text := range documents() {
		d := parsed(t, text)
		k := plainOf(d)
		for _, q := range queries() {
			p := query(t, q)
			needSelect(t, d, k, p)
			for n := -1; n < d.Len(); n++ {
				c.add(needFrom(t, d, k, n, p))
			}
		}
	}
	c.need(t, 500)
}

// froms: From of a path from each of the nodes, all together.
func froms(t *testing.T, d *tree.Tree, nodes []int, p api.Path) []int {
	t.Helper()
	var all []int
	for _, n := range nodes {
		list, e := mean.From(d, n, p)
		if e != api.OK {
			t.Fatalf("P12.1: From(%d, %+v): %d", n, p, e)
		}
		all = append(all, list...)
	}
	return rising(all)
}

// needCut: P12.6: a path cut at each step.
func needCut(t *testing.T, d *tree.Tree, n int, p api.Path) {
	t.Helper()
	whole := froms(t, d, []int{n}, p)
	for at := 1; at < len(p.Steps); at++ {
		first := froms(t, d, []int{n}, steps(p.Steps[:at]...))
		if got := froms(t, d, first, steps(p.Steps[at:]...)); !slices.Equal(got, whole) {
			text, _ := ask.Print(p)
			t.Fatalf("P12.6: %s from %d, cut at %d: %v, whole %v", text, n, at, got, whole)
		}
	}
}

// needSame: P12.6: two paths that lead to the same.
func needSame(t *testing.T, d *tree.Tree, n int, p, q api.Path) {
	t.Helper()
	if a, b := froms(t, d, []int{n}, p), froms(t, d, []int{n}, q); !slices.Equal(a, b) {
		one, _ := ask.Print(p)
		two, _ := ask.Print(q)
		t.Fatalf("P12.6: from %d: %s leads to %v, %s to %v", n, one, a, two, b)
	}
}

// needLaws: P12.6, of two expressions at a node.
func needLaws(t *testing.T, d *tree.Tree, n int, x, y api.Expr) {
	t.Helper()
	a, _ := mean.Holds(d, n, x)
	b, _ := mean.Holds(d, n, y)
	for _, law := range []struct {
		what string
		x    api.Expr
		want bool
	}{
		{"not(x)", no(x), !a}, {"not(not(x))", no(no(x)), a},
		{"x and y", allOf(x, y), a && b}, {"y and x", allOf(y, x), a && b}, {"x or y", oneOf(x, y), a || b}, {"y or x", oneOf(y, x), a || b},
		{"not(x and y)", no(allOf(x, y)), !a || !b}, {"not(x) or not(y)", oneOf(no(x), no(y)), !a || !b},
		{"not(x or y)", no(oneOf(x, y)), !a && !b}, {"not(x) and not(y)", allOf(no(x), no(y)), !a && !b},
		{"x and (x or y)", allOf(x, oneOf(x, y)), a}, {"x or x and y", oneOf(x, allOf(x, y)), a},
		{"x and x and y", allOf(x, x, y), a && b}, {"x or y or y", oneOf(x, y, y), a || b}, {"x and y and not(x)", allOf(x, y, no(x)), false}, {"y or not(x) or x", oneOf(y, no(x), x), true},
	} {
		if got, e := mean.Holds(d, n, law.x); e != api.OK || got != law.want {
			one, _ := ask.Print(steps(here(x)))
			two, _ := ask.Print(steps(here(y)))
			t.Fatalf("P12.6: %s at %d, x %s, y %s: %v, %d", law.what, n, one, two, got, e)
		}
	}
}

// needSplit: P12.6: descendant-or-self is self and descendant together.
func needSplit(t *testing.T, d *tree.Tree, n int, s api.Step) {
	t.Helper()
	by := func(a api.Axis) []int {
		s.Axis = a
		return froms(t, d, []int{n}, steps(s))
	}
	together := rising(slices.Concat(by(api.Self), by(api.Descendant)))
	if got := by(api.OrSelf); !slices.Equal(got, together) {
		t.Fatalf("P12.6: %+v from %d: %v, want %v", s, n, got, together)
	}
}

func TestLaws(t *testing.T) {
	t.Parallel()
	for seed := range uint64(400) {
		m := newMaker(seed + 1<<20)
		d := parsed(t, m.document())
		for range 4 {
			p, s, x, y := m.path(2), m.step(2), m.expr(1), m.expr(1)
			two, one, none := s, s, s
			two.Where = append(slices.Clone(s.Where), x, y)
			one.Where = append(slices.Clone(s.Where), allOf(x, y))
			none.Where = append(slices.Clone(s.Where), y, x, y)
			for n := -1; n < d.Len(); n++ {
				needCut(t, d, n, p)
				needCut(t, d, n, api.Path{Steps: slices.Concat(p.Steps, steps(s, two).Steps)})
				needLaws(t, d, n, x, y)
				needSame(t, d, n, steps(two), steps(one))
				needSame(t, d, n, steps(none), steps(one))
				needSame(t, d, n, steps(two), steps(s, here(x), here(y)))
				needSplit(t, d, n, s)
				needSplit(t, d, n, two)
			}
		}
	}
	for _, text := range documents() {
		d := parsed(t, text)
		for _, q := range queries() {
			for n := -1; n < d.Len(); n++ {
				needCut(t, d, n, query(t, q))
			}
		}
	}
}

// TestSomeByFrom: P12.5, by From, Value and Compared themselves.
func TestSomeByFrom(t *testing.T) {
	t.Parallel()
	var c tally
	for seed := range uint64(500) {
		m := newMaker(seed + 1<<21)
		d := parsed(t, m.document())
		for range 6 {
			x := m.some(1)
			for n := -1; n < d.Len(); n++ {
				list, _ := mean.From(d, n, x.Path)
				want := slices.ContainsFunc(list, func(k int) bool { return comparesAt(d, k, x) })
				got, e := mean.Holds(d, n, x)
				if e != api.OK || got != want {
					text, _ := ask.Print(steps(here(x)))
					t.Fatalf("P12.5: %s at %d: %v, %d, want %v", text, n, got, e, want)
				}
				c.add(got)
			}
		}
	}
	c.need(t, 1000)
}

func comparesAt(d *tree.Tree, n int, x api.Expr) bool {
	if x.Attr == "" {
		value, _ := d.Value(n)
		holds, _ := mean.Compared(value, x.Compare, x.Text, x.Number)
		return holds
	}
	event, _ := d.Node(n) // nothing of -1, nor attributes of a text
	for _, a := range event.Attrs {
		if a.Name == x.Attr {
			holds, _ := mean.Compared(a.Value, x.Compare, x.Text, x.Number)
			return holds
		}
	}
	return false
}
