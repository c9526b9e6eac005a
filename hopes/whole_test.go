package hopes_test

import (
	"math"
	"testing"

	"gimlet/api"
	"gimlet/half"
	"gimlet/hopes"
)

// What follows holds what is known behind each event against layer 15, which finds it anew of all events, and against comparisons of all text that came.

// tally counts how often each value came, so that a test that tries nothing is seen.
type tally [3]int

func (c *tally) need(t *testing.T, least int) {
	t.Helper()
	for v, many := range c {
		if many < least {
			t.Errorf("%s came only %d times", letter(api.Truth(v)), many)
		}
	}
}

// at is a predicate at a node.
type at struct{ number, pred int }

// trial is a Hopes with what it has taken, and what was known behind the event ahead.
type trial struct {
	n      api.Net
	exprs  []api.Expr
	h      *hopes.Hopes
	events []api.Event
	was    map[at]api.Truth
}

func newTrial(t testing.TB, n api.Net) *trial {
	t.Helper()
	x := &trial{n: n, h: started(t, n), was: map[at]api.Truth{}}
	for pred := range n.Preds {
		x.exprs = append(x.exprs, exprOf(n, pred))
	}
	return x
}

// needNow: P18.3 to P18.5 behind the events taken.
func (x *trial) needNow(t *testing.T, c *tally) {
	t.Helper()
	x.needEntries(t)
	numbers, open := standing(x.events)
	for pred, expr := range x.exprs {
		all := wanted(t, x.events, expr)
		for depth, number := range numbers {
			got, e := x.h.Truth(depth, pred)
			if want := all[number+1]; got != want || e != api.OK {
				t.Fatalf("P18.3: %v at %d of %s: %d, %d; layer 15: %d", shown(steps(here(expr))), depth, formOf(x.events), got, e, want)
			}
			c[got]++
			isClosed := depth >= open || len(x.events) > 0 && open == 1
			if isClosed && got == api.Unknown {
				t.Fatalf("P18.5: %v at %d of %s, which is closed: %d", shown(steps(here(expr))), depth, formOf(x.events), got)
			}
			if was, ok := x.was[at{number, pred}]; ok && was != api.Unknown && was != got {
				t.Fatalf("P18.5: %v at %d of %s: %d, and ahead %d", shown(steps(here(expr))), depth, formOf(x.events), got, was)
			}
			x.was[at{number, pred}] = got
		}
	}
	x.needNone(t, len(numbers))
}

// wanted: what layer 15 knows of an expression at the root above, and behind it at all nodes that were told: those to which a step leads that has it as its predicate.
func wanted(t *testing.T, events []api.Event, x api.Expr) []api.Truth {
	t.Helper()
	above, e := half.Holds(events, -1, x)
	list, f := half.Verdicts(events, steps(api.Step{Axis: api.OrSelf, Test: api.AnyNode, Where: []api.Expr{x}}))
	if e != api.OK || f != api.OK {
		t.Fatalf("layer 15: %v of %s: %d, %d", shown(steps(here(x))), formOf(events), e, f)
	}
	all := make([]api.Truth, 1+len(events))
	all[0] = above
	for _, v := range list {
		all[v.Number+1] = v.Truth
	}
	return all
}

// needEntries: P18.4.
func (x *trial) needEntries(t *testing.T) {
	t.Helper()
	depth, size := 0, len(x.n.Rows)+len(x.n.Preds)
	if len(x.events) > 0 {
		depth = x.events[len(x.events)-1].Depth
	}
	if n := x.h.Entries(); n < 0 || n > 8*(depth+1)*size*size {
		t.Fatalf("P18.4: %d rows, %d preds, behind %s: Entries %d", len(x.n.Rows), len(x.n.Preds), formOf(x.events), n)
	}
}

// needNone: P18.3: no node stands at that depth nor below, and there are no more predicates than there are.
func (x *trial) needNone(t *testing.T, deep int) {
	t.Helper()
	preds := len(x.exprs)
	for _, depth := range []int{math.MinInt, math.MinInt32, -2, -1, 0, deep - 1, deep, deep + 1, deep + 2, math.MaxInt32, math.MaxInt} {
		for _, pred := range []int{math.MinInt, math.MinInt32, -2, -1, 0, preds - 1, preds, preds + 1, math.MaxInt32, math.MaxInt} {
			want := api.ErrRange
			if depth >= 0 && depth < deep && pred >= 0 && pred < preds {
				want = api.OK
			}
			if v, e := x.h.Truth(depth, pred); e != want || e != api.OK && v != 0 {
				t.Fatalf("P18.3: Truth(%d, %d) of %d predicates behind %s: %d, %d, want %d", depth, pred, preds, formOf(x.events), v, e, want)
			}
		}
	}
}

// take: P18.2 of a next event.
func (x *trial) take(t *testing.T, e api.Event) {
	t.Helper()
	if got := x.h.Take(e); got != api.OK {
		t.Fatalf("P18.2: %+v behind %s: %d", e, formOf(x.events), got)
	}
	x.events = append(x.events, e)
}

// needRun: a net over all events of a document.
func needRun(t *testing.T, n api.Net, events []api.Event, c *tally) {
	t.Helper()
	x := newTrial(t, n)
	x.needNow(t, c)
	for _, e := range events {
		x.take(t, e)
		x.needNow(t, c)
	}
}

// asking: the net of a query that has these predicates at one step.
func asking(t testing.TB, list ...api.Expr) api.Net { return netOf(t, steps(child("a", list...))) }

// TestAllShort: all paths of one step and of two, over all short documents.
func TestAllShort(t *testing.T) {
	t.Parallel()
	var c tally
	bare := bareSteps("a", "b")
	var list []api.Expr
	for _, one := range bare {
		list = append(list, there(one))
		for _, two := range bare {
			list = append(list, there(one, two))
		}
	}
	n := asking(t, list...)
	for _, d := range shorts(3) {
		needRun(t, n, eventsOf(t, d), &c)
	}
	c.need(t, 10000)
}

// TestEachAlone: each path of one step in a net of its own, so that the least bounds of Entries are tried.
func TestEachAlone(t *testing.T) {
	t.Parallel()
	var c tally
	for _, d := range documents() {
		for _, s := range bareSteps("a", "é") {
			needRun(t, asking(t, there(s)), eventsOf(t, d), &c)
			needRun(t, netOf(t, steps(s, s)), eventsOf(t, d), &c)
		}
	}
	c.need(t, 500)
}

// TestComparisons: each comparison behind each step, with and without an attribute.
func TestComparisons(t *testing.T) {
	t.Parallel()
	var c tally
	for _, d := range documents() {
		for _, s := range bareSteps("a", "é") {
			list := comparisons(there(s), 4, "", "a", "b", "ab", "é")
			list = append(list, comparisons(attr("a", s), 3, "", "a", "ab", "é")...)
			needRun(t, asking(t, list...), eventsOf(t, d), &c)
		}
	}
	c.need(t, 5000)
}

// TestPredicatesOnSteps: each predicate of some on each of two steps, alone, and two behind one another.
func TestPredicatesOnSteps(t *testing.T) {
	t.Parallel()
	var c tally
	events := eventsOf(t, "<a a='b'>b<b><a>b</a>a</b><a a='a'/></a>")
	bare := bareSteps("a")
	var list []api.Expr
	for _, s := range bare {
		list = append(list, there(s), no(there(s)), attr("a", s), withText(there(s), api.Equal, "b"))
	}
	for i, x := range list {
		var all []api.Expr
		for _, s := range bare {
			s.Where = []api.Expr{x}
			for _, other := range []api.Step{here(), child("a"), {Axis: api.OrSelf, Test: api.AnyNode}} {
				all = append(all, there(s, other), there(other, s), there(other, s, other))
			}
		}
		needRun(t, asking(t, all...), events, &c)
		all = nil
		for k, y := range list {
			if k/4%4 != i/4%4 { // each kind and axis of y comes with each of x
				continue
			}
			all = append(all, there(api.Step{Axis: api.OrSelf, Test: api.AnyNode, Where: []api.Expr{x, y}}), there(api.Step{Axis: api.Descendant, Test: api.AnyName, Where: []api.Expr{no(y), x}}))
		}
		needRun(t, asking(t, all...), events, &c)
	}
	c.need(t, 10000)
}

// TestLogicWithin: And, Or and Not within one another, of all they can be of.
func TestLogicWithin(t *testing.T) {
	t.Parallel()
	var c tally
	events := eventsOf(t, "<a a='b'>b<b><a>b</a>a</b><c/><a a='a'/></a>")
	parts := []api.Expr{there(child("b")), there(child("c")), attr("a"), withText(there(here()), api.Equal, "bba"), there(api.Step{Axis: api.Descendant, Test: api.TextNode})}
	joins := []func(x, y api.Expr) api.Expr{
		func(x, y api.Expr) api.Expr { return allOf(x, y) },
		func(x, y api.Expr) api.Expr { return oneOf(x, y) },
		func(x, y api.Expr) api.Expr { return no(allOf(no(x), y)) },
		func(x, y api.Expr) api.Expr { return no(oneOf(x, no(y), x)) },
	}
	for _, x := range parts {
		for _, y := range parts {
			for _, z := range parts[2:4] {
				var list []api.Expr
				for _, outer := range joins {
					for _, inner := range joins {
						list = append(list, outer(inner(x, y), z), outer(z, inner(y, x)))
					}
				}
				needRun(t, asking(t, list...), events, &c)
			}
		}
	}
	c.need(t, 10000)
}

// TestByChance: nets of all kinds, nested, of documents of all kinds.
func TestByChance(t *testing.T) {
	t.Parallel()
	var c tally
	for seed := range uint64(800) {
		m := newMaker(seed)
		events := m.events(12, m.text)
		for range 2 {
			needRun(t, netOf(t, m.path(3)), events, &c)
			needRun(t, asking(t, m.expr(3)), events, &c)
		}
	}
	c.need(t, 20000)
}

// TestQueries: each query over each document.
func TestQueries(t *testing.T) {
	t.Parallel()
	var c tally
	for _, d := range documents() {
		for _, q := range queries() {
			needRun(t, netOf(t, query(t, q)), eventsOf(t, d), &c)
		}
	}
	c.need(t, 500)
}

// needTexts: P18.3 of comparisons of string values alone, over all events of a document, held against all text that came in each open node.
func needTexts(t *testing.T, n api.Net, events []api.Event, c *tally) {
	t.Helper()
	h := started(t, n)
	came := [][]rune{nil} // of the open nodes by their depths
	needAt := func(depth int, s []rune, open bool) {
		for pred := range n.Preds {
			x := exprOf(n, pred)
			got, e := h.Truth(depth, pred)
			if want := plainly(s, x, open); got != want || e != api.OK {
				t.Fatalf("P18.3: %v at %d of %s, where %q came: %d, %d, want %d", shown(steps(here(x))), depth, formOf(events), string(s), got, e, want)
			}
			c[got]++
		}
	}
	for _, e := range events {
		if got := h.Take(e); got != api.OK {
			t.Fatalf("P18.2: %+v: %d", e, got)
		}
		last := len(came) - 1
		switch e.Kind {
		case api.Open:
			came = append(came, nil)
		case api.Text:
			for depth := range came {
				came[depth] = append(came[depth], []rune(e.Text)...)
			}
			needAt(last+1, []rune(e.Text), false)
		case api.Close:
			needAt(last, came[last], false)
			came = came[:last]
		}
		for depth, s := range came {
			needAt(depth, s, e.Kind != api.Close || last > 1)
		}
	}
}

// TestTexts: texts of two letters in pieces, in elements within one another, and asked for, so that they are found within one another in all ways.
func TestTexts(t *testing.T) {
	t.Parallel()
	var c tally
	for seed := range uint64(250) {
		m := newMaker(seed + 1<<20)
		most := 1 + m.r.IntN(6)
		events := m.events(40, func() string { return m.letters(most) })
		var texts []string
		for range 5 {
			texts = append(texts, m.letters(6))
		}
		needTexts(t, asking(t, comparisons(there(here()), 8, append(texts, "")...)...), events, &c)
	}
	c.need(t, 20000)
}

// TestAllTexts: all texts of two letters of up to four characters are asked for, over all documents of three levels that such a text makes, cut in all ways in up to three pieces.
func TestAllTexts(t *testing.T) {
	t.Parallel()
	var c tally
	var texts []string
	for from, end := 0, 1; end < 31; from, end = end, len(texts) {
		if end == 1 {
			texts = append(texts, "")
		}
		for _, s := range texts[from:] {
			texts = append(texts, s+"a", s+"b")
		}
	}
	n := asking(t, comparisons(there(here()), 0, texts...)...)
	for _, s := range texts[15:] {
		for i := range len(s) + 1 {
			for k := i; k <= len(s); k++ {
				needTexts(t, n, eventsOf(t, "<x>"+s[:i]+"<y>"+s[i:k]+"<z>"+s[k:]+"</z></y></x>"), &c)
				needTexts(t, n, eventsOf(t, "<x>"+s[:i]+"<y>"+s[i:k]+"</y>"+s[k:]+"</x>"), &c)
			}
		}
	}
	c.need(t, 10000)
}

// lettersBehind: what is known of all predicates at all depths, behind each event.
func lettersBehind(t *testing.T, n api.Net, events []api.Event) []string {
	t.Helper()
	h := started(t, n)
	list := []string{lettersOf(h, len(n.Preds))}
	for _, e := range events {
		h.Take(e)
		list = append(list, lettersOf(h, len(n.Preds)))
	}
	return list
}

// TestByTurns: two of them, of one net and of two, take different documents' events by turns; neither knows of the other.
func TestByTurns(t *testing.T) {
	t.Parallel()
	for seed := range uint64(300) {
		m := newMaker(seed + 1<<21)
		n := [2]api.Net{netOf(t, m.path(3))}
		n[1] = n[0]
		if seed%2 == 0 {
			n[1] = netOf(t, m.path(3))
		}
		var events [2][]api.Event
		var want [2][]string
		var two [2]*hopes.Hopes
		for i := range two {
			events[i] = m.events(15, m.text)
			want[i] = lettersBehind(t, n[i], events[i])
			two[i] = started(t, n[i])
		}
		for many := range max(len(events[0]), len(events[1])) {
			for i, h := range two {
				if many < len(events[i]) && h.Take(events[i][many]) != api.OK {
					t.Fatalf("P18.2: %+v refused", events[i][many])
				}
			}
			for i, h := range two {
				if got := lettersOf(h, len(n[i].Preds)); got != want[i][min(many+1, len(events[i]))] {
					t.Fatalf("rule 7: %s: %s, want %s", formOf(events[i][:min(many+1, len(events[i]))]), got, want[i][many+1])
				}
			}
		}
	}
}

// TestWheneverAsked: what is known doesn't hang on whether it was asked for ahead, nor on how often.
func TestWheneverAsked(t *testing.T) {
	t.Parallel()
	for seed := range uint64(300) {
		m := newMaker(seed + 1<<22)
		n, events := netOf(t, m.path(3)), m.events(15, m.text)
		want := lettersBehind(t, n, events)
		for many := range len(events) + 1 {
			h := started(t, n)
			for _, e := range events[:many] {
				h.Take(e)
			}
			for range 2 {
				if got := lettersOf(h, len(n.Preds)); got != want[many] {
					t.Fatalf("P18.3: %s: %s, want %s", formOf(events[:many]), got, want[many])
				}
			}
		}
	}
}

// TestWhichever: P18.5: what is known at a beginning's open nodes stays, whatever comes.
func TestWhichever(t *testing.T) {
	t.Parallel()
	known := 0
	for seed := range uint64(300) {
		m := newMaker(seed + 1<<23)
		n, events := netOf(t, m.path(3)), m.events(15, m.text)
		for many := range events[1:] {
			if len(n.Preds) == 0 {
				break
			}
			x := newTrial(t, n)
			for _, e := range events[:many+1] {
				x.take(t, e)
			}
			numbers, open := standing(x.events)
			was := lettersOf(x.h, len(n.Preds))
			x.goOn(t, m)
			for depth := range numbers[:open] {
				now := lettersAt(x.h, depth, len(n.Preds))
				for pred, v := range []byte(was[depth*(len(n.Preds)+1)+1:][:len(n.Preds)]) {
					if v != 'U' && now[pred] != v {
						t.Fatalf("P18.5: pred %d at %d of %s: %c, then %c", pred, depth, formOf(x.events), v, now[pred])
					}
					if v != 'U' {
						known++
					}
				}
			}
		}
	}
	if known < 3000 {
		t.Errorf("P18.5: only %d truths were known", known)
	}
}

// goOn: some events more, by which none of the open elements is closed.
func (x *trial) goOn(t *testing.T, m maker) {
	nodes := 0
	for _, e := range x.events {
		if e.Kind != api.Close {
			nodes++
		}
	}
	_, open := standing(x.events)
	deep := open - 1
	for range 6 {
		if x.events[len(x.events)-1].Kind != api.Text && m.r.IntN(2) == 0 {
			x.take(t, api.Event{Kind: api.Text, Number: nodes, Depth: deep + 1, Text: m.text()})
			nodes++
			continue
		}
		e := m.opened(nodes, deep+1)
		nodes++
		x.take(t, e)
		if m.r.IntN(2) == 0 {
			deep++
			continue
		}
		x.take(t, api.Event{Kind: api.Close, Number: e.Number, Depth: e.Depth, Name: e.Name})
	}
}
