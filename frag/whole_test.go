package frag_test

import (
	"slices"
	"testing"

	"gimlet/api"
	"gimlet/ask"
	"gimlet/frag"
	"gimlet/mean"
	"gimlet/tree"
)

// What follows holds the calls against the chapter's own words, followed one after the other as they stand.

func alike(x, y api.Expr) bool { return ask.Same(steps(here(x)), steps(here(y))) }

func has(list []api.Expr, x api.Expr) bool {
	return slices.ContainsFunc(list, func(y api.Expr) bool { return alike(x, y) })
}

// onceEach: each that is alike an earlier one is left out.
func onceEach(list []api.Expr) []api.Expr {
	var out []api.Expr
	for _, x := range list {
		if !has(out, x) {
			out = append(out, x)
		}
	}
	return out
}

func without(list []api.Expr, x api.Expr) []api.Expr {
	return slices.DeleteFunc(slices.Clone(list), func(y api.Expr) bool { return alike(x, y) })
}

// spread: the normal forms, where in the place of one of that kind its parts stand.
func spread(list []api.Expr, op api.Op) []api.Expr {
	var out []api.Expr
	for _, x := range list {
		if n := plainExpr(x); n.Op == op {
			out = append(out, n.Args...)
		} else {
			out = append(out, n)
		}
	}
	return out
}

func plainExpr(x api.Expr) api.Expr {
	switch x.Op {
	case api.And:
		return plainJoin(x, always(), never())
	case api.Or:
		return plainJoin(x, never(), always())
	case api.Not:
		if n := plainExpr(x.Args[0]); n.Op == api.Not {
			return n.Args[0]
		} else {
			return no(n)
		}
	}
	x.Path = plainPath(x.Path)
	if x.Text == "" && (x.Compare == api.Begins || x.Compare == api.Ends || x.Compare == api.Contains) {
		x.Compare = api.Exists
	}
	return x
}

func plainJoin(x api.Expr, idle, strong api.Expr) api.Expr {
	list := without(onceEach(spread(x.Args, x.Op)), idle)
	switch {
	case has(list, strong):
		return strong
	case len(list) == 0:
		return idle
	case len(list) == 1:
		return list[0]
	}
	return api.Expr{Op: x.Op, Args: list}
}

func plainWhere(list []api.Expr) []api.Expr {
	list = onceEach(without(spread(list, api.And), always()))
	if has(list, never()) {
		return []api.Expr{never()}
	}
	return list
}

func plainPath(p api.Path) api.Path {
	var out []api.Step
	for _, s := range p.Steps {
		s.Where = plainWhere(s.Where)
		out = plainPut(out, s)
	}
	if len(out) == 0 {
		return steps(here())
	}
	return api.Path{Steps: out}
}

func plainPut(out []api.Step, s api.Step) []api.Step {
	bare := len(s.Where) == 0
	if bare && s.Axis == api.Self && s.Test == api.AnyNode {
		return out
	}
	if len(out) == 0 {
		return append(out, s)
	}
	ahead, last := out[:len(out)-1], out[len(out)-1]
	if s.Axis == api.Self {
		alikeTests := s.Test == last.Test && s.Name == last.Name
		oneIsNode := s.Test == api.AnyNode || last.Test == api.AnyNode
		starAndName := s.Test == api.AnyName && last.Test == api.Named || s.Test == api.Named && last.Test == api.AnyName
		if !alikeTests && !oneIsNode && !starAndName {
			return append(out, s)
		}
		if last.Test == api.AnyNode || starAndName && s.Test == api.Named {
			last.Test, last.Name = s.Test, s.Name
		}
		last.Where = plainWhere(slices.Concat(last.Where, s.Where))
		return append(ahead, last)
	}
	if last.Axis == api.OrSelf && last.Test == api.AnyNode && len(last.Where) == 0 {
		if s.Axis == api.Child {
			s.Axis = api.Descendant
		}
		return append(ahead, s)
	}
	return append(out, s)
}

// plainEmpty: P13.3, of a normal form.
func plainEmpty(p api.Path) bool {
	first := p.Steps[0]
	if first.Axis == api.Self && (first.Test != api.AnyNode || len(p.Steps) == 1) || first.Axis == api.Child && first.Test == api.TextNode {
		return true
	}
	for i, s := range p.Steps {
		if has(s.Where, never()) || i > 0 && s.Axis == api.Self {
			return true
		}
		if i > 0 && p.Steps[i-1].Test == api.TextNode && (s.Axis == api.Child || s.Axis == api.Descendant) {
			return true
		}
	}
	return false
}

// needAll: P13.1 to P13.4 but for what is selected; the normal form, and whether it is empty.
func needAll(t *testing.T, p api.Path) (api.Path, bool) {
	t.Helper()
	n, e := frag.Normal(p)
	want := plainPath(p)
	if e != api.OK || !ask.Same(n, want) {
		t.Fatalf("P13.1: %s: %s, %d, want %s", shown(p), shown(n), e, shown(want))
	}
	plain, e := frag.Plain(p)
	if hasNone := !slices.ContainsFunc(p.Steps, func(s api.Step) bool { return len(s.Where) > 0 }); plain != hasNone || e != api.OK {
		t.Fatalf("P13.2: %s: %v, %d", shown(p), plain, e)
	}
	empty, e := frag.Empty(p)
	if empty != plainEmpty(want) || e != api.OK {
		t.Fatalf("P13.3: %s: %v, %d", shown(p), empty, e)
	}
	again, e := frag.Normal(n)
	before, _ := ask.Size(p)
	size, f := ask.Size(n)
	if e != api.OK || f != api.OK || !ask.Same(again, n) || size > before {
		t.Fatalf("P13.4: %s of %d: %s of %d, and then %s, %d, %d", shown(p), before, shown(n), size, shown(again), e, f)
	}
	if twice, e := frag.Empty(n); twice != empty || e != api.OK {
		t.Fatalf("P13.3: Empty(%s) = %v, Empty(%s) = %v, %d", shown(p), empty, shown(n), twice, e)
	}
	return n, empty
}

// needSelected: P13.4: a query and its normal form select the same, an empty one nothing. Whether there is anything.
func needSelected(t *testing.T, d *tree.Tree, p, n api.Path, empty bool) bool {
	t.Helper()
	list, _ := mean.Select(d, p)
	other, e := mean.Select(d, n)
	if e != api.OK || !slices.Equal(list, other) || empty && len(list) > 0 {
		form, _ := d.Print(0)
		t.Fatalf("P13.4: of %s: %s selects %v, %s selects %v, %d; Empty: %v", form, shown(p), list, shown(n), other, e, empty)
	}
	return len(list) > 0
}

// tally counts how often something held, so that a test that tries nothing is seen.
type tally struct{ yes, no int }

func (c *tally) add(holds bool) {
	if holds {
		c.yes++
	} else {
		c.no++
	}
}

func (c *tally) need(t *testing.T, least int) {
	t.Helper()
	if c.yes < least || c.no < least {
		t.Errorf("only %d held, %d didn't", c.yes, c.no)
	}
}

// trees: of some documents of many shapes.
func trees(t *testing.T, texts ...string) []*tree.Tree {
	t.Helper()
	var list []*tree.Tree
	for _, text := range texts {
		list = append(list, parsed(t, text))
	}
	return list
}

// TestThreeSteps: all paths of up to three steps, bare or with one of some predicates each.
func TestThreeSteps(t *testing.T) {
	t.Parallel()
	var empties, led tally
	docs := trees(t, "<a>b<c><a>b</a></c>d</a>", "<b a='a'><a><b>a</b></a></b>", "<a/>")
	bare := bareSteps("a", "b")
	for _, s := range bareSteps("a") {
		for _, x := range []api.Expr{there(child("a")), never(), always()} {
			s.Where = []api.Expr{x}
			bare = append(bare, s)
		}
	}
	try := func(list ...api.Step) {
		p := steps(list...)
		n, empty := needAll(t, p)
		empties.add(empty)
		for _, d := range docs {
			led.add(needSelected(t, d, p, n, empty))
		}
	}
	for _, one := range bare {
		try(one)
		for _, two := range bare {
			try(one, two)
			if one.Test == api.TextNode && two.Test == api.TextNode {
				continue
			}
			for i, three := range bare {
				if i%3 == 0 || len(one.Where)+len(two.Where) == 0 {
					try(one, two, three)
				}
			}
		}
	}
	empties.need(t, 1000)
	led.need(t, 1000)
}

// TestFourBare: all paths of four bare steps of one name.
func TestFourBare(t *testing.T) {
	t.Parallel()
	var empties tally
	bare := bareSteps("a")
	for _, one := range bare {
		for _, two := range bare {
			for _, three := range bare {
				for _, four := range bare {
					_, empty := needAll(t, steps(one, two, three, four))
					empties.add(empty)
				}
			}
		}
	}
	empties.need(t, 1000)
}

// joins: of the parts each two and each three, by And and by Or.
func joins(parts []api.Expr) []api.Expr {
	var list []api.Expr
	for _, x := range parts {
		for _, y := range parts {
			list = append(list, allOf(x, y), oneOf(x, y))
		}
	}
	return list
}

// TestExpressions: all And and Or of two that are And or Or or Not of a few, as a predicate, denied, and beside another one.
func TestExpressions(t *testing.T) {
	t.Parallel()
	var led tally
	docs := trees(t, "<a>b<c><a>b</a></c>d</a>", "<z a='a'><a><b>a</b></a><b/></z>")
	a, b := there(child("a")), there(child("b"))
	leaves := []api.Expr{a, b, always(), never(), withText(a, api.Contains, "")}
	one := slices.Concat(leaves, joins(leaves))
	for _, x := range leaves {
		one = append(one, no(x), no(no(x)))
	}
	try := func(where ...api.Expr) {
		p := steps(api.Step{Axis: api.Descendant, Test: api.AnyNode, Where: where})
		n, empty := needAll(t, p)
		for _, d := range docs {
			led.add(needSelected(t, d, p, n, empty))
		}
	}
	for _, x := range one {
		try(x)
		for _, y := range one {
			try(x, y)
			try(allOf(x, y))
			try(oneOf(x, y))
			try(no(allOf(x, no(y))))
			try(no(oneOf(no(x), y)), x)
			try(oneOf(a, allOf(x, y), y))
			try(allOf(x, b, oneOf(y, x)))
		}
	}
	led.need(t, 1000)
}

// TestThreeParts: all And and Or of three and four leaves, true and false ones among them.
func TestThreeParts(t *testing.T) {
	t.Parallel()
	leaves := []api.Expr{there(child("a")), there(child("b")), always(), never(), no(there(child("a"))), attr("a")}
	for _, w := range leaves {
		for _, x := range leaves {
			for _, y := range leaves {
				needAll(t, steps(child("z", w, x, y)))
				needAll(t, steps(child("z", allOf(w, x, y))))
				needAll(t, steps(child("z", oneOf(w, x, y))))
				needAll(t, steps(child("z", w), api.Step{Axis: api.Self, Test: api.AnyName, Where: []api.Expr{x, y}}))
				for _, z := range leaves {
					needAll(t, steps(child("z", oneOf(w, x, y, z))))
					needAll(t, steps(child("z", no(allOf(w, x, y, z)))))
					needAll(t, steps(child("z", w, x), here(y), here(z)))
				}
			}
		}
	}
}

// TestComparisonsAll: each comparison, of the empty text and another one, with and without an attribute, of each path of one step.
func TestComparisonsAll(t *testing.T) {
	t.Parallel()
	var led tally
	docs := trees(t, documents()...)
	for _, s := range bareSteps("a", "é") {
		for _, x := range []api.Expr{there(s), attr("a", s), there(here(), s), there(anyBelow(), s)} {
			list := []api.Expr{x}
			for c := api.Equal; c <= api.Contains; c++ {
				list = append(list, withText(x, c, ""), withText(x, c, "a"))
			}
			for c := api.LengthIs; c <= api.Shorter; c++ {
				list = append(list, withNumber(x, c, 0), withNumber(x, c, 1))
			}
			for _, y := range list {
				p := steps(anyBelow(), api.Step{Test: api.AnyNode, Where: []api.Expr{y}})
				n, empty := needAll(t, p)
				for _, d := range docs {
					led.add(needSelected(t, d, p, n, empty))
				}
			}
		}
	}
	led.need(t, 1000)
}

// TestQueries: of each document each query.
func TestQueries(t *testing.T) {
	t.Parallel()
	var led tally
	docs := trees(t, append(documents(), shorts(3)...)...)
	for _, q := range queries() {
		p := query(t, q)
		n, empty := needAll(t, p)
		for _, d := range docs {
			led.add(needSelected(t, d, p, n, empty))
		}
	}
	led.need(t, 300)
}

// TestByChance: queries of all kinds, nested, of documents of all kinds.
func TestByChance(t *testing.T) {
	t.Parallel()
	var empties, led, less tally
	for seed := range uint64(4000) {
		m := newMaker(seed)
		d := parsed(t, m.document())
		for range 6 {
			p := m.path(3)
			n, empty := needAll(t, p)
			empties.add(empty)
			less.add(ask.Same(p, n))
			led.add(needSelected(t, d, p, n, empty))
		}
	}
	empties.need(t, 1000)
	less.need(t, 1000)
	led.need(t, 1000)
}

// TestShortDocuments: an empty query selects none of any short document; one that isn't empty and has no predicates selects something of some.
func TestShortDocuments(t *testing.T) {
	t.Parallel()
	docs := trees(t, shorts(4)...)
	bare := bareSteps("a", "b")
	for _, one := range bare {
		for _, two := range bare {
			p := steps(one, two)
			n, empty := needAll(t, p)
			some := false
			for _, d := range docs {
				some = needSelected(t, d, p, n, empty) || some
			}
			if isByDescent := one.Test == api.TextNode && two.Axis == api.OrSelf && two.Test < api.TextNode; some == empty && !isByDescent {
				t.Errorf("P13.3: %s selects nothing of short documents, and isn't empty", shown(p))
			}
		}
	}
}
