package half_test

import (
	"slices"
	"testing"

	"gimlet/api"
	"gimlet/half"
	"gimlet/mean"
	"gimlet/tree"
)

// What follows holds the calls against the document's own words, followed as they stand: step by step and node by node, what is in what found by going up through the parents, and nodes told event by event.

// plain is what a beginning's events have told.
type plain struct {
	nodes   []api.Event // its Open or its Text
	parents []int
	open    []bool
	above   bool // the root above is open
}

func plainOf(events []api.Event) *plain {
	k := &plain{above: true}
	in := []int{-1}
	for _, e := range events {
		last := in[len(in)-1]
		if e.Kind == api.Close {
			k.open[last] = false
			in = in[:len(in)-1]
			k.above = last > 0
			continue
		}
		k.nodes = append(k.nodes, e)
		k.parents = append(k.parents, last)
		k.open = append(k.open, e.Kind == api.Open)
		if e.Kind == api.Open {
			in = append(in, e.Number)
		}
	}
	return k
}

func (k *plain) isOpen(n int) bool { return n < 0 && k.above || n >= 0 && k.open[n] }

// isIn: m is in n, however deep.
func (k *plain) isIn(m, n int) bool {
	for m >= 0 {
		m = k.parents[m]
		if m == n {
			return true
		}
	}
	return false
}

func (k *plain) meets(m int, s api.Step) bool {
	if m < 0 {
		return s.Test == api.AnyNode
	}
	e := k.nodes[m]
	switch s.Test {
	case api.Named:
		return e.Kind == api.Open && e.Name == s.Name
	case api.AnyName:
		return e.Kind == api.Open
	case api.TextNode:
		return e.Kind == api.Text
	}
	return true
}

// known: what is known of x at n.
func (k *plain) known(x api.Expr, n int) api.Truth {
	switch x.Op {
	case api.And:
		return k.allKnown(x.Args, n)
	case api.Or:
		out := api.False
		for _, part := range x.Args {
			out = max(out, k.known(part, n))
		}
		return out
	case api.Not:
		return api.True - k.known(x.Args[0], n)
	}
	return k.rest(x, 0, n)
}

func (k *plain) allKnown(list []api.Expr, n int) api.Truth {
	out := api.True
	for _, x := range list {
		if out != api.False {
			out = min(out, k.known(x, n))
		}
	}
	return out
}

// rest: what is known, from n on, of the steps from number i on, and of what is asked behind them.
func (k *plain) rest(x api.Expr, i, n int) api.Truth {
	if i == len(x.Path.Steps) {
		return k.compared(x, n)
	}
	s := x.Path.Steps[i]
	at := func(m int) api.Truth { // "that same", at m
		if !k.meets(m, s) {
			return api.False
		}
		out := k.allKnown(s.Where, m)
		if out != api.False {
			out = min(out, k.rest(x, i+1, m))
		}
		return out
	}
	out := api.False
	if s.Axis == api.Self || s.Axis == api.OrSelf {
		out = at(n)
	}
	if s.Axis == api.Self {
		return out
	}
	if k.isOpen(n) {
		out = max(out, api.Unknown)
	}
	for m, parent := range k.parents {
		if out != api.True && (parent == n || s.Axis != api.Child && k.isIn(m, n)) {
			out = max(out, at(m))
		}
	}
	return out
}

func (k *plain) compared(x api.Expr, n int) api.Truth {
	if x.Attr == "" {
		return plainly([]rune(k.value(n)), x, k.isOpen(n))
	}
	if n < 0 {
		return api.False
	}
	for _, a := range k.nodes[n].Attrs {
		if a.Name == x.Attr {
			return plainly([]rune(a.Value), x, false)
		}
	}
	return api.False
}

// value: the characters of all texts in it that were told, or its own.
func (k *plain) value(n int) string {
	all := ""
	for m, e := range k.nodes {
		if m == n || k.isIn(m, n) {
			all += e.Text
		}
	}
	return all
}

// plainly: a comparison of characters, behind which others may come where the text is open.
func plainly(s []rune, x api.Expr, open bool) api.Truth {
	text := []rune(x.Text)
	begins := func(a, b []rune) bool { return len(a) >= len(b) && slices.Equal(a[:len(b)], b) }
	found := false
	for at := range len(s) + 1 {
		found = found || begins(s[at:], text)
	}
	if !open {
		return truth(map[api.Compare]bool{
			api.Exists: true, api.Equal: slices.Equal(s, text), api.Unequal: !slices.Equal(s, text),
			api.Begins: begins(s, text), api.Ends: len(s) >= len(text) && slices.Equal(s[len(s)-len(text):], text), api.Contains: found,
			api.LengthIs: len(s) == x.Number, api.Longer: len(s) > x.Number, api.Shorter: len(s) < x.Number,
		}[x.Compare])
	}
	isTrue, isFalse := false, false
	switch x.Compare {
	case api.Exists:
		isTrue = true
	case api.Equal:
		isFalse = !begins(text, s)
	case api.Unequal:
		isTrue = !begins(text, s)
	case api.Begins:
		isTrue = begins(s, text)
		isFalse = !isTrue && !begins(text, s)
	case api.Contains:
		isTrue = found
	case api.LengthIs:
		isFalse = len(s) > x.Number
	case api.Longer:
		isTrue = len(s) > x.Number
	case api.Shorter:
		isFalse = len(s) >= x.Number
	}
	if !isTrue && !isFalse {
		return api.Unknown
	}
	return truth(isTrue)
}

func truth(holds bool) api.Truth {
	if holds {
		return api.True
	}
	return api.False
}

// led: what the query's step i, counted from 1 on, leads to m with.
func (k *plain) led(p api.Path, i, m int) api.Truth {
	if i == 0 {
		return truth(m < 0)
	}
	s := p.Steps[i-1]
	if !k.meets(m, s) {
		return api.False
	}
	out := api.False
	if s.Axis == api.Self || s.Axis == api.OrSelf {
		out = k.led(p, i-1, m)
	}
	if s.Axis != api.Self {
		for n := -1; n < m; n++ {
			if k.parents[m] == n || s.Axis != api.Child && k.isIn(m, n) {
				out = max(out, k.led(p, i-1, n))
			}
		}
	}
	if out == api.False {
		return out
	}
	return min(out, k.allKnown(s.Where, m))
}

// verdicts: P15.2.
func (k *plain) verdicts(p api.Path) []api.Verdict {
	var list []api.Verdict
	for n := range k.nodes {
		if v := k.led(p, len(p.Steps), n); v != api.False {
			list = append(list, api.Verdict{Number: n, Truth: v})
		}
	}
	return list
}

// form: the canonical form of a node that is closed, of what is in it by recursion.
func (k *plain) form(n int) string {
	e := k.nodes[n]
	if e.Kind == api.Text {
		return formOf([]api.Event{e})
	}
	all := formOf([]api.Event{e})
	for m, parent := range k.parents {
		if parent == n {
			all += k.form(m)
		}
	}
	return all + "</" + e.Name + ">"
}

// goneOn: the nodes that were told, and behind them those that may be told now, one by one.
func (k *plain) goneOn(told []api.Item, p api.Path) []api.Item {
	list := k.verdicts(p)
	for {
		next := len(told)
		if next >= len(list) || list[next].Truth != api.True || k.isOpen(list[next].Number) {
			return told
		}
		for i, item := range told {
			if list[i].Number != item.Number {
				return nil // a node was told that isn't selected, or too early
			}
		}
		n := list[next].Number
		told = append(told, api.Item{Number: n, Text: k.form(n)})
	}
}

// tally counts how often each value came, so that a test that tries nothing is seen.
type tally [3]int

func (c *tally) add(list []api.Verdict, nodes int) {
	for _, v := range list {
		c[v.Truth]++
	}
	c[api.False] += nodes - len(list)
}

func (c *tally) need(t *testing.T, least int) {
	t.Helper()
	for v, many := range c {
		if many < least {
			t.Errorf("%s came only %d times", letter(api.Truth(v)), many)
		}
	}
}

// needQuery: P15.2 to P15.5 of a query, at each beginning of a document's events.
func needQuery(t *testing.T, events []api.Event, p api.Path, c *tally) {
	t.Helper()
	var before []api.Verdict
	var told []api.Item
	nodes := 0
	for many := range len(events) + 1 {
		k := plainOf(events[:many])
		got, e := half.Verdicts(events[:many], p)
		if want := k.verdicts(p); e != api.OK || !slices.Equal(got, want) {
			t.Fatalf("P15.2: %v of %s: %v, %d, want %v", shown(p), formOf(events[:many]), got, e, want)
		}
		needStay(t, events[:many], p, before, got, nodes)
		before, nodes = got, len(k.nodes)
		told = k.goneOn(told, p)
		items, e := half.Told(events[:many], p)
		if e != api.OK || !slices.Equal(items, told) {
			t.Fatalf("P15.3: %v of %s: %v, %d, want %v", shown(p), formOf(events[:many]), items, e, told)
		}
		c.add(got, len(k.nodes))
	}
	needWhole(t, events, p)
}

// needStay: P15.5: of the nodes that were told ahead.
func needStay(t *testing.T, events []api.Event, p api.Path, before, now []api.Verdict, nodes int) {
	t.Helper()
	was, is := lettersOf(before, nodes), lettersOf(now, nodesOf(events))
	for n := range was {
		if was[n] != 'U' && is[n] != was[n] {
			t.Fatalf("P15.5: %v of %s: %s, and one event ahead %s", shown(p), formOf(events), is, was)
		}
	}
}

// needWhole: P15.4, of all events of a document.
func needWhole(t *testing.T, events []api.Event, p api.Path) {
	t.Helper()
	d, e := tree.Build(events)
	if e != api.OK {
		t.Fatalf("%s: %d", formOf(events), e)
	}
	want, _ := mean.Select(d, p)
	list, _ := half.Verdicts(events, p)
	items, _ := half.Told(events, p)
	if len(list) != len(want) || len(items) != len(want) {
		t.Fatalf("P15.4: %v of %s: %v and %v, want %v", shown(p), formOf(events), list, items, want)
	}
	for i, n := range want {
		form, _ := d.Print(n)
		if list[i] != (api.Verdict{Number: n, Truth: api.True}) || items[i] != (api.Item{Number: n, Text: form}) {
			t.Fatalf("P15.4: %v of %s: %v and %v, want %v", shown(p), formOf(events), list, items, want)
		}
	}
}

// needExpr: P15.1 and P15.5 of an expression, at each node of each beginning, and of all as layer 12's Holds.
func needExpr(t *testing.T, events []api.Event, x api.Expr, c *tally) {
	t.Helper()
	var before []api.Truth
	for many := range len(events) + 1 {
		k := plainOf(events[:many])
		var now []api.Truth
		for n := -1; n < len(k.nodes); n++ {
			got, e := half.Holds(events[:many], n, x)
			if want := k.known(x, n); e != api.OK || got != want {
				t.Fatalf("P15.1: %v at %d of %s: %d, %d, want %d", shownExpr(x), n, formOf(events[:many]), got, e, want)
			}
			now = append(now, got)
			c[got]++
		}
		for i, was := range before {
			if was != api.Unknown && now[i] != was {
				t.Fatalf("P15.5: %v at %d of %s: %d, and one event ahead %d", shownExpr(x), i-1, formOf(events[:many]), now[i], was)
			}
		}
		before = now
	}
	d, _ := tree.Build(events)
	for i, v := range before {
		if holds, e := mean.Holds(d, i-1, x); e != api.OK || v != truth(holds) {
			t.Fatalf("P15.1: %v at %d of %s: %d, layer 12 %v", shownExpr(x), i-1, formOf(events), v, holds)
		}
	}
}

// TestAllShort: all paths of one step and of two, of each beginning of all short documents.
func TestAllShort(t *testing.T) {
	t.Parallel()
	var c, h tally
	bare := bareSteps("a", "b")
	for _, d := range shorts(3) {
		events := eventsOf(t, d)
		for _, one := range bare {
			needQuery(t, events, steps(one), &c)
			needExpr(t, events, there(one), &h)
			for _, two := range bare {
				needQuery(t, events, steps(one, two), &c)
				needExpr(t, events, there(one, two), &h)
			}
		}
	}
	h.need(t, 10000)
	if c[api.True] < 10000 || c[api.False] < 10000 || c[api.Unknown] > 0 {
		t.Errorf("P15.2: of queries without predicates: %v", c)
	}
}

// TestComparisons: each comparison behind each step, with and without an attribute, at each node of each beginning.
func TestComparisons(t *testing.T) {
	t.Parallel()
	var c tally
	for _, d := range documents() {
		events := eventsOf(t, d)
		for _, s := range bareSteps("a", "é") {
			for _, x := range slices.Concat(comparisons(there(s)), comparisons(attr("a", s))) {
				if len(events) < 9 || s.Axis == api.Self || s.Test == api.AnyNode {
					needExpr(t, events, x, &c)
				}
			}
		}
	}
	c.need(t, 10000)
}

// TestPredicatesOnSteps: each predicate of some on each of two steps, alone, and two behind one another.
func TestPredicatesOnSteps(t *testing.T) {
	t.Parallel()
	var c tally
	events := eventsOf(t, "<a a='b'>b<b><a>b</a>a</b><a a='a'/></a>")
	bare := bareSteps("a")
	var list []api.Expr
	for _, s := range bare {
		list = append(list, there(s), no(there(s)), attr("a", s), withText(there(s), api.Equal, "b"))
	}
	for _, x := range list {
		for _, s := range bare {
			s.Where = []api.Expr{x}
			for _, other := range []api.Step{here(), child("a"), {Axis: api.OrSelf, Test: api.AnyNode}} {
				needQuery(t, events, steps(s, other), &c)
				needQuery(t, events, steps(other, s), &c)
				needQuery(t, events, steps(other, s, other), &c)
			}
		}
		for _, y := range list {
			s := api.Step{Axis: api.OrSelf, Test: api.AnyNode, Where: []api.Expr{x, y}}
			needQuery(t, events, steps(s), &c)
			if x.Op == api.Not || y.Op == api.Not {
				needExpr(t, events, oneOf(x, y), &c)
				needExpr(t, events, there(api.Step{Axis: api.Descendant, Test: api.AnyNode, Where: []api.Expr{x, y}}), &c)
			}
		}
	}
	c.need(t, 10000)
}

// TestByChance: paths and expressions of all kinds, nested, of documents of all kinds, at each beginning.
func TestByChance(t *testing.T) {
	t.Parallel()
	var c, h tally
	for seed := range uint64(1200) {
		m := newMaker(seed)
		events := m.events(10)
		for range 4 {
			needQuery(t, events, m.path(2), &c)
			needExpr(t, events, m.expr(2), &h)
		}
	}
	c.need(t, 3000)
	h.need(t, 10000)
}

// TestQueries: of each beginning of each document each query.
func TestQueries(t *testing.T) {
	t.Parallel()
	var c tally
	for _, d := range documents() {
		for _, q := range queries() {
			needQuery(t, eventsOf(t, d), query(t, q), &c)
		}
	}
	c.need(t, 500)
}

// needComing: P15.5: a beginning held against events that go on from there in some way.
func needComing(t *testing.T, events, more []api.Event, p api.Path, x api.Expr, c *tally) {
	t.Helper()
	was, _ := half.Verdicts(events, p)
	is, e := half.Verdicts(more, p)
	if e != api.OK {
		t.Fatalf("P15.2: %s: %d", formOf(more), e)
	}
	needStay(t, more, p, was, is, nodesOf(events))
	c.add(was, nodesOf(events))
	told, _ := half.Told(events, p)
	later, _ := half.Told(more, p)
	if len(later) < len(told) || !slices.Equal(later[:len(told)], told) {
		t.Fatalf("P15.5: %v of %s: told %v, and ahead %v", shown(p), formOf(more), later, told)
	}
	for n := -1; n < nodesOf(events); n++ {
		v, _ := half.Holds(events, n, x)
		w, e := half.Holds(more, n, x)
		if e != api.OK || v != api.Unknown && v != w {
			t.Fatalf("P15.5: %v at %d of %s: %d, %d, and ahead %d", shownExpr(x), n, formOf(more), w, e, v)
		}
	}
}

// TestWhichever: each beginning goes on in several ways.
func TestWhichever(t *testing.T) {
	t.Parallel()
	var c tally
	for seed := range uint64(400) {
		m := newMaker(seed + 1<<20)
		events := m.events(9)
		p, x := m.path(2), m.expr(2)
		for many := range len(events) {
			for range 3 {
				more := m.goneOn(events[:many], m.r.IntN(9))
				needComing(t, events[:many], more, p, x, &c)
				needComing(t, events[:many], more[:many+m.r.IntN(len(more)-many+1)], p, x, &c)
				needWhole(t, more, p)
			}
		}
	}
	c.need(t, 300)
}
