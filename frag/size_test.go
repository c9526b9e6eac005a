package frag_test

import (
	"reflect"
	"slices"
	"strconv"
	"testing"
	"time"

	"gimlet/api"
	"gimlet/ask"
	"gimlet/frag"
)

// What follows tries what is great, and whose memory it is.

// within: what is tried ends in a minute.
func within(t *testing.T, try func()) {
	t.Helper()
	done := make(chan struct{})
	go func() {
		defer close(done)
		try()
	}()
	select {
	case <-done:
	case <-time.After(time.Minute):
		t.Error("P1: it doesn't end in a minute")
	}
}

// needGreat: P13.1 and P13.4, of what is too great for the plain reading.
func needGreat(t *testing.T, what string, p, want api.Path) {
	t.Helper()
	got, e := frag.Normal(p)
	if e != api.OK || !ask.Same(got, want) {
		t.Errorf("P13.1: %s: %.200s, %d, want %.200s", what, shown(got), e, shown(want))
	}
	if again, e := frag.Normal(got); e != api.OK || !ask.Same(again, got) {
		t.Errorf("P13.4: %s: %.200s, %d, and then %.200s", what, shown(got), e, shown(again))
	}
}

// TestNestedJustSo: brackets within brackets, as deep as may be, and one deeper.
func TestNestedJustSo(t *testing.T) {
	b := there(child("b"))
	inStep := func(x api.Expr) api.Expr { return there(child("a", x)) }
	inSelf := func(x api.Expr) api.Expr { return there(here(x)) }
	inAnd := func(x api.Expr) api.Expr { return allOf(x, b) }
	inOr := func(x api.Expr) api.Expr { return oneOf(b, x) }
	inTurn := func(x api.Expr) api.Expr { return oneOf(b, allOf(x, attr("a"))) }
	inCall := func(x api.Expr) api.Expr { return withText(there(child("a", x)), api.Ends, "") }
	const most = api.MaxNested - 1 // the first predicate's own bracket
	for kind, r := range map[string]struct {
		x      api.Expr
		around func(api.Expr) api.Expr
		most   int
		want   func(n int) []api.Expr
	}{
		"steps": {b, inStep, most, func(n int) []api.Expr { return []api.Expr{wrapped(n, b, inStep)} }},
		"selfs": {always(), inSelf, most, func(int) []api.Expr { return nil }},
		"nots":  {b, no, most, func(n int) []api.Expr { return []api.Expr{wrapped(n%2, b, no)} }},
		"ands":  {allOf(attr("c"), b), inAnd, most, func(int) []api.Expr { return []api.Expr{attr("c"), b} }},
		"ors":   {oneOf(attr("c"), b), inOr, most, func(n int) []api.Expr { return []api.Expr{oneOf(b, attr("c"))} }},
		"turns": {oneOf(attr("c"), attr("d")), inTurn, most, func(n int) []api.Expr { return []api.Expr{wrapped(n, oneOf(attr("c"), attr("d")), inTurn)} }},
		"calls": {b, inCall, most / 2, func(n int) []api.Expr { return []api.Expr{wrapped(n, b, inStep)} }},
	} {
		for _, n := range []int{r.most, r.most - 1, r.most - 2} {
			needGreat(t, kind, steps(child("a", wrapped(n, r.x, r.around))), steps(child("a", r.want(n)...)))
		}
		deeper := steps(child("a", wrapped(r.most+1, r.x, r.around)))
		if got, e := frag.Normal(deeper); e != api.ErrShape || len(got.Steps) > 0 {
			t.Errorf("P13.1: %s, one too deep: %d", kind, e)
		}
	}
}

// manyParts: so many that are not alike.
func manyParts(n int) []api.Expr {
	var list []api.Expr
	for i := range n {
		list = append(list, there(child("a"+strconv.Itoa(i))))
	}
	return list
}

// TestLong: paths of many steps, steps of many predicates, expressions of many parts.
func TestLong(t *testing.T) {
	within(t, func() {
		const many = 100000
		parts := manyParts(many)
		twice := slices.Concat(parts, parts)
		needGreat(t, "predicates", steps(child("z", twice...)), steps(child("z", parts...)))
		needGreat(t, "And", steps(child("z", allOf(twice...))), steps(child("z", parts...)))
		needGreat(t, "Or", steps(child("z", oneOf(twice...))), steps(child("z", oneOf(parts...))))
		needGreat(t, "Or with a true one", steps(child("z", oneOf(append(twice, always())...))), steps(child("z")))
		one := there(child("b"))
		needGreat(t, "alike ones", steps(child("z", slices.Repeat([]api.Expr{one, always()}, many)...)), steps(child("z", one)))
		var selfs []api.Step
		for _, x := range twice {
			selfs = append(selfs, here(x))
		}
		needGreat(t, "selfs", steps(append([]api.Step{child("z")}, selfs...)...), steps(child("z", parts...)))
		needGreat(t, "selfs alone", steps(selfs...), steps(here(parts...)))
		needGreat(t, "left out", steps(slices.Repeat([]api.Step{here()}, many)...), steps(here()))
		needGreat(t, "dos", steps(slices.Repeat([]api.Step{anyBelow()}, many)...), steps(anyBelow()))
		needGreat(t, "dos and child", steps(slices.Repeat([]api.Step{anyBelow(), child("a")}, many)...), steps(slices.Repeat([]api.Step{{Axis: api.Descendant, Name: "a"}}, many)...))
		needGreat(t, "child", steps(slices.Repeat([]api.Step{child("a")}, many)...), steps(slices.Repeat([]api.Step{child("a")}, many)...))
		if empty, e := frag.Empty(steps(append(slices.Repeat([]api.Step{child("a")}, many), child("a", never()))...)); !empty || e != api.OK {
			t.Errorf("P13.3: %v, %d", empty, e)
		}
	})
}

// TestWideAndDeep: many parts at each of as many depths as may be.
func TestWideAndDeep(t *testing.T) {
	within(t, func() {
		parts := manyParts(100)
		around := func(x api.Expr) api.Expr { return there(child("a", slices.Concat(parts, []api.Expr{x})...)) }
		again := func(x api.Expr) api.Expr {
			return there(child("a", slices.Concat(parts, []api.Expr{x}, parts)...))
		}
		last := there(child("b"))
		needGreat(t, "wide", steps(child("z", wrapped(api.MaxNested-1, last, again))), steps(child("z", wrapped(api.MaxNested-1, last, around))))
	})
}

// roomy: a copy of the path, each list of which has room for two more, filled.
func roomy(p api.Path) api.Path {
	list := make([]api.Step, 0, len(p.Steps)+2)
	for _, s := range p.Steps {
		s.Where = roomyExprs(s.Where)
		list = append(list, s)
	}
	_ = append(list, child("spare"), child("spare"))
	return api.Path{Steps: list}
}

func roomyExprs(exprs []api.Expr) []api.Expr {
	list := make([]api.Expr, 0, len(exprs)+2)
	for _, x := range exprs {
		x.Path, x.Args = roomy(x.Path), roomyExprs(x.Args)
		list = append(list, x)
	}
	_ = append(list, there(child("spare")), there(child("spare")))
	return list
}

// whole: the path with what stands in its spare room.
func whole(p api.Path) api.Path {
	var list []api.Step
	for _, s := range p.Steps[:cap(p.Steps)] {
		s.Where = wholeExprs(s.Where)
		list = append(list, s)
	}
	return api.Path{Steps: list}
}

func wholeExprs(exprs []api.Expr) []api.Expr {
	var list []api.Expr
	for _, x := range exprs[:cap(exprs)] {
		x.Path, x.Args = whole(x.Path), wholeExprs(x.Args)
		list = append(list, x)
	}
	return list
}

// lists: the addresses of all the members of all lists of a path, those in their spare room too.
func lists(p api.Path, steps map[*api.Step]int, exprs map[*api.Expr]int) {
	room := p.Steps[:cap(p.Steps)]
	for i := range room {
		steps[&room[i]]++
		listsOf(room[i].Where, steps, exprs)
	}
}

func listsOf(list []api.Expr, steps map[*api.Step]int, exprs map[*api.Expr]int) {
	room := list[:cap(list)]
	for i := range room {
		exprs[&room[i]]++
		lists(room[i].Path, steps, exprs)
		listsOf(room[i].Args, steps, exprs)
	}
}

// needApart: no two lists of the paths share memory.
func needApart(t *testing.T, what string, paths ...api.Path) {
	t.Helper()
	steps, exprs := map[*api.Step]int{}, map[*api.Expr]int{}
	for _, p := range paths {
		lists(p, steps, exprs)
	}
	for _, n := range steps {
		if n > 1 {
			t.Fatalf("P13.5: %s: a list of steps stands twice", what)
		}
	}
	for _, n := range exprs {
		if n > 1 {
			t.Fatalf("P13.5: %s: a list of expressions stands twice", what)
		}
	}
}

// spoil: writes over all that a path holds, its spare room too.
func spoil(p api.Path) {
	room := p.Steps[:cap(p.Steps)]
	for i := range room {
		spoilExprs(room[i].Where)
		room[i] = api.Step{Axis: 9}
	}
}

func spoilExprs(list []api.Expr) {
	room := list[:cap(list)]
	for i := range room {
		spoil(room[i].Path)
		spoilExprs(room[i].Args)
		room[i] = api.Expr{Op: 9}
	}
}

// manyPaths: of queries, and made by chance.
func manyPaths(t *testing.T) []api.Path {
	t.Helper()
	var list []api.Path
	for _, q := range append(queries(), "a[b and (c and b)][c]/self::a[d and b]", "a[not(not(b or (c or b)))]", "a[. or b]", "a[b and not(.)]", "a[starts-with(.//b, '')]", "a[b[not(.) or not(.)]]", "self::node()[. and .]", "a[b or not(.)][b]") {
		list = append(list, query(t, q))
	}
	for seed := range uint64(2000) {
		m := newMaker(seed + 1<<20)
		list = append(list, m.path(3))
	}
	return list
}

// TestMemory: P13.5: what is handed in stays as it is, its spare room too; what is answered shares nothing with it, nor with another answer, nor within itself.
func TestMemory(t *testing.T) {
	for _, made := range manyPaths(t) {
		p := roomy(made)
		before := whole(p)
		one, _ := frag.Normal(p)
		frag.Plain(p)
		frag.Empty(p)
		two, e := frag.Normal(p)
		if e != api.OK || !reflect.DeepEqual(whole(p), before) {
			t.Fatalf("P13.5: %s was changed, %d", shown(made), e)
		}
		needApart(t, shown(made), p, one, two)
		want := roomy(one)
		spoil(p)
		spoil(two)
		if !ask.Same(one, want) {
			t.Fatalf("P13.5: %s: behind what was written over: %s", shown(made), shown(one))
		}
		if again, e := frag.Normal(made); e != api.OK || !ask.Same(again, want) {
			t.Fatalf("P13.5: %s: %s, and first %s", shown(made), shown(again), shown(want))
		}
	}
}

// TestNilAndEmpty: rule 4: empty lists are as nil ones.
func TestNilAndEmpty(t *testing.T) {
	empty := api.Path{Steps: []api.Step{{Name: "a", Where: []api.Expr{}}, {Axis: api.Self, Test: api.AnyNode, Where: []api.Expr{}}, {Axis: api.OrSelf, Test: api.AnyNode, Where: []api.Expr{{Op: api.Some, Args: []api.Expr{}, Path: steps(here())}}}, {Name: "b", Where: []api.Expr{{Op: api.Not, Args: []api.Expr{attr("c")}, Path: api.Path{Steps: []api.Step{}}}}}}}
	needPath(t, empty, query(t, "a/descendant::b[not(@c)]"))
	if plain, e := frag.Plain(steps(child("a", []api.Expr{}...))); !plain || e != api.OK {
		t.Errorf("P13.2: %v, %d", plain, e)
	}
}

// TestApart: what a call answers hangs on its argument alone, whatever was asked ahead.
func TestApart(t *testing.T) {
	var first []api.Path
	var empties []bool
	for range 2 {
		for i, p := range manyPaths(t) {
			n, _ := frag.Normal(p)
			frag.Normal(api.Path{})
			empty, _ := frag.Empty(p)
			if i == len(first) {
				first, empties = append(first, n), append(empties, empty)
			} else if !ask.Same(n, first[i]) || empty != empties[i] {
				t.Fatalf("P13.5: %s: %s, and first %s", shown(p), shown(n), shown(first[i]))
			}
		}
	}
}
