package half_test

import (
	"math"
	"reflect"
	"slices"
	"strings"
	"testing"
	"time"

	"gimlet/api"
	"gimlet/half"
)

// What follows tries what is great, and whose memory it is.

// within: what is tried ends in a minute.
func within(t *testing.T, try func()) {
	t.Helper()
	done := make(chan struct{})
	go func() {
		defer close(done)
		try()
	}()
	select {
	case <-done:
	case <-time.After(time.Minute):
		t.Fatal("P1: it doesn't end in a minute")
	}
}

// run is of nodes, from the first to the last, of which the same is known.
type run struct {
	from, to int
	v        api.Truth
}

func runsOf(list []api.Verdict) []run {
	var runs []run
	for _, v := range list {
		last := len(runs) - 1
		if last >= 0 && runs[last].to+1 == v.Number && runs[last].v == v.Truth {
			runs[last].to++
		} else {
			runs = append(runs, run{v.Number, v.Number, v.Truth})
		}
	}
	return runs
}

// needRuns: P15.2, of many nodes.
func needRuns(t *testing.T, events []api.Event, q string, want ...run) {
	t.Helper()
	list, e := half.Verdicts(events, query(t, q))
	if got := runsOf(list); e != api.OK || !slices.Equal(got, want) {
		t.Errorf("P15.2: %.80s of %d events: %v, %d, want %v", q, len(events), got[:min(len(got), 9)], e, want)
	}
}

// needCount: P15.3, how many of many nodes are told, and the last one's form.
func needCount(t *testing.T, events []api.Event, q string, many int, last string) {
	t.Helper()
	list, e := half.Told(events, query(t, q))
	if e != api.OK || len(list) != many || many > 0 && list[many-1].Text != last {
		t.Errorf("P15.3: %.80s of %d events: %d nodes, %d, want %d", q, len(events), len(list), e, many)
	}
}

// TestDeep: as many open elements as a document that is read may have.
func TestDeep(t *testing.T) {
	within(t, func() {
		const deep = api.MaxDepth
		all := eventsOf(t, strings.Repeat("<a>", deep-1)+"<b>x</b>"+strings.Repeat("</a>", deep-1)) // 0 to deep-2 a, deep-1 b, deep x
		part := all[:deep+2]                                                                        // behind </b>
		needRuns(t, part, "//a", run{0, deep - 2, api.True})
		needRuns(t, part, "//a//a", run{1, deep - 2, api.True})
		needRuns(t, part, "//node()", run{0, deep, api.True})
		needRuns(t, part, "//a[b]", run{0, deep - 3, api.Unknown}, run{deep - 2, deep - 2, api.True})
		needRuns(t, part, "//a[.//b]", run{0, deep - 2, api.True})
		needRuns(t, part, "//a[.//c]/b", run{deep - 1, deep - 1, api.Unknown})
		needRuns(t, part, "//*[not(*)]", run{deep - 1, deep - 1, api.True})
		needRuns(t, part, "//*[. = 'x']", run{0, deep - 2, api.Unknown}, run{deep - 1, deep - 1, api.True})
		needRuns(t, part, "//*[contains(., 'x')]", run{0, deep - 1, api.True})
		needRuns(t, part, "//*[string-length(.) > 1]", run{0, deep - 2, api.Unknown})
		needRuns(t, part[:deep], "//*[.//text()]", run{0, deep - 1, api.Unknown})
		needRuns(t, all, "//*[string-length(.) > 1]")
		needRuns(t, all, "//*[. = 'x']", run{0, deep - 1, api.True})
		needRuns(t, all, "//a[.//c]/b")
		needCount(t, part, "//b", 1, "<b>x</b>")
		needCount(t, part, "//a", 0, "")
		needCount(t, all[:len(all)-1], "//a[not(c)]", 0, "")
		needCount(t, all, "//node()", deep+1, "x")
		for _, n := range []int{-1, 0, deep / 2, deep} {
			if v, e := half.Holds(part, n, expr(t, "descendant-or-self::text() = 'x'")); v != api.True || e != api.OK {
				t.Errorf("P15.1: at %d: %d, %d", n, v, e)
			}
		}
	})
}

// TestWide: many nodes right in one.
func TestWide(t *testing.T) {
	within(t, func() {
		const wide = 50000
		all := eventsOf(t, "<a>"+strings.Repeat("x<b y='z'/>", wide)+"</a>") // 0 a, then x and b by turns
		part := all[:len(all)-1]
		needCount(t, part, "a/b", wide, "<b y=\"z\"></b>")
		needCount(t, part, "a/text()", wide, "x")
		needCount(t, part, "//node()", 0, "")
		needCount(t, part, "//b[@y != 'z']", 0, "")
		needCount(t, part, "a[c]/b", 0, "")
		needCount(t, all, "//node()", 2*wide+1, "<b y=\"z\"></b>")
		needRuns(t, part, "a/node()[. = '' or . = 'x']", run{1, 2 * wide, api.True})
		needRuns(t, part, "a[c]/node()", run{1, 2 * wide, api.Unknown})
		needRuns(t, part, "a[string-length(.) = 50000]", run{0, 0, api.Unknown})
		needRuns(t, part, "a[string-length(.) < 50000]")
		needRuns(t, all, "a[string-length(.) = 50000]", run{0, 0, api.True})
		needRuns(t, part, strings.Repeat("node()/", api.MaxQuery/7-1)+"*")
	})
}

// TestNestedWide: predicates within predicates are found once for each node, not once for each way to it.
func TestNestedWide(t *testing.T) {
	within(t, func() {
		all := eventsOf(t, "<a>"+strings.Repeat("<a><a>x<a/></a><a/></a>", 20)+"<b/></a>")
		part := all[:len(all)-2] // 0 and b are open
		last := nodesOf(part) - 1
		inside := func(front, middle, back string, n int) string {
			return strings.Repeat(front, n) + middle + strings.Repeat(back, n)
		}
		needRuns(t, part, inside("descendant::a[", "a", "]", api.MaxNested), run{0, 0, api.Unknown})
		needRuns(t, all, inside("descendant::a[", "a", "]", api.MaxNested))
		needRuns(t, part, inside("descendant-or-self::*[", "self::b", "]", api.MaxNested), run{0, 0, api.True}, run{last, last, api.True})
		needRuns(t, part, "//b["+inside("not(.//a or ", "a", ")", api.MaxNested-1)+"]", run{last, last, api.Unknown})
		needRuns(t, all, "//b["+inside("not(.//a or ", "a", ")", api.MaxNested-2)+"]")
		needRuns(t, part, "//b"+strings.Repeat("[.//text()]", 5000), run{last, last, api.Unknown})
		needRuns(t, part, "//*["+strings.Repeat(".//text() and ", 4000)+"b]", run{0, 0, api.True}, run{last, last, api.Unknown})
		needRuns(t, part, strings.Repeat(".//", 20000)+"b", run{last, last, api.True})
		needRuns(t, part, "a["+strings.Repeat(".//", 20000)+"c]//b", run{last, last, api.Unknown})
	})
}

// TestLong: paths longer than any query that is read, long texts asked for and come.
func TestLong(t *testing.T) {
	within(t, func() {
		events := eventsOf(t, chapters)
		dots := slices.Repeat([]api.Step{here()}, 1<<17)
		for many := range len(events) + 1 {
			list, e := half.Verdicts(events[:many], steps(append(slices.Clip(dots), child("a"))...))
			if e != api.OK || len(list) != min(many, 1) {
				t.Errorf("P15.2: %d events: %v, %d", many, list, e)
			}
			v, e := half.Holds(events[:many], -1, there(append(slices.Clip(dots), child("a"))...))
			if want := min(api.Truth(many)+api.Unknown, api.True); e != api.OK || v != want {
				t.Errorf("P15.1: %d events: %d, %d", many, v, e)
			}
		}
		long := strings.Repeat("é", 1<<17)
		other := begun(t, "<a c='"+long+"'>"+long+"<b>")
		for _, r := range []struct {
			x    api.Expr
			want api.Truth
		}{
			{withText(there(here()), api.Equal, long), api.Unknown}, {withText(there(here()), api.Equal, long[2:]), api.False}, {withText(there(here()), api.Unequal, long[2:]+"e"), api.True}, {withText(there(here()), api.Begins, long), api.True}, {withText(there(here()), api.Begins, long+"é"), api.Unknown},
			{withText(there(here()), api.Contains, long[2:]), api.True}, {withText(there(here()), api.Contains, long+"é"), api.Unknown}, {withText(there(here()), api.Ends, long), api.Unknown},
			{withText(attr("c"), api.Equal, long), api.True}, {withText(attr("c"), api.Contains, long+"é"), api.False}, {withNumber(attr("c"), api.LengthIs, 1<<17), api.True},
			{withNumber(there(here()), api.LengthIs, 1<<17), api.Unknown}, {withNumber(there(here()), api.LengthIs, 1<<17-1), api.False}, {withNumber(there(here()), api.Longer, 1<<17-1), api.True}, {withNumber(there(here()), api.Longer, api.MaxNumber), api.Unknown}, {withNumber(there(here()), api.Shorter, 1<<17), api.False}, {withNumber(there(here()), api.Shorter, api.MaxNumber), api.Unknown},
		} {
			if v, e := half.Holds(other, 0, r.x); v != r.want || e != api.OK {
				t.Errorf("P15.1: a long text, comparison %d: %d, %d, want %d", r.x.Compare, v, e, r.want)
			}
		}
	})
}

// spareEvents: a copy of the events, each list of which has room for two more, filled.
func spareEvents(events []api.Event) []api.Event {
	list := make([]api.Event, 0, len(events)+2)
	for _, e := range events {
		attrs := make([]api.Attr, 0, len(e.Attrs)+2)
		e.Attrs = append(attrs, e.Attrs...)
		_ = append(e.Attrs, api.Attr{Name: "spare"}, api.Attr{Value: "spare"})
		list = append(list, e)
	}
	_ = append(list, api.Event{Name: "spare"}, api.Event{Text: "spare", Attrs: []api.Attr{{Name: "spare"}}})
	return list
}

// wholeEvents: the events with what stands in their spare room.
func wholeEvents(events []api.Event) []api.Event {
	var list []api.Event
	for _, e := range events[:cap(events)] {
		e.Attrs = slices.Clone(e.Attrs[:cap(e.Attrs)])
		list = append(list, e)
	}
	return list
}

// sparePath: likewise of a path.
func sparePath(p api.Path) api.Path {
	list := make([]api.Step, 0, len(p.Steps)+2)
	for _, s := range p.Steps {
		s.Where = spareExprs(s.Where)
		list = append(list, s)
	}
	_ = append(list, child("spare"), child("spare"))
	return api.Path{Steps: list}
}

func spareExprs(exprs []api.Expr) []api.Expr {
	list := make([]api.Expr, 0, len(exprs)+2)
	for _, x := range exprs {
		x.Path, x.Args = sparePath(x.Path), spareExprs(x.Args)
		list = append(list, x)
	}
	_ = append(list, there(child("spare")), there(child("spare")))
	return list
}

func wholePath(p api.Path) api.Path {
	var list []api.Step
	for _, s := range p.Steps[:cap(p.Steps)] {
		s.Where = wholeExprs(s.Where)
		list = append(list, s)
	}
	return api.Path{Steps: list}
}

func wholeExprs(exprs []api.Expr) []api.Expr {
	var list []api.Expr
	for _, x := range exprs[:cap(exprs)] {
		x.Path, x.Args = wholePath(x.Path), wholeExprs(x.Args)
		list = append(list, x)
	}
	return list
}

// TestGiven: rule 5: what is handed in is neither changed nor kept, its spare room included.
func TestGiven(t *testing.T) {
	for _, d := range documents() {
		plain := eventsOf(t, d)
		for i, q := range queries() {
			many := len(plain) - i%min(3, len(plain))
			events, p := spareEvents(plain[:many]), sparePath(query(t, q))
			given, path := wholeEvents(events), wholePath(p)
			list, e := half.Verdicts(events, p)
			items, _ := half.Told(events, p)
			v, _ := half.Holds(events, 0, api.Expr{Op: api.Some, Path: p})
			if e != api.OK || !reflect.DeepEqual(wholeEvents(events), given) || !reflect.DeepEqual(wholePath(p), path) {
				t.Fatalf("rule 5: %s of %s: what was given was changed, %d", q, d, e)
			}
			want, _ := half.Verdicts(plain[:many], query(t, q))
			told, _ := half.Told(plain[:many], query(t, q))
			w, _ := half.Holds(plain[:many], 0, there(query(t, q).Steps...))
			for i := range events[:cap(events)] {
				attrs := events[:cap(events)][i].Attrs
				clear(attrs[:cap(attrs)])
				events[:cap(events)][i] = api.Event{Kind: 9}
			}
			clear(p.Steps[:cap(p.Steps)])
			if !slices.Equal(list, want) || !slices.Equal(items, told) || v != w {
				t.Fatalf("rule 5: %s of %s: %v, %v, %d, with spare room %v, %v, %d", q, d, want, told, w, list, items, v)
			}
		}
	}
}

// TestAnswers: rule 5: what was answered may be written over, its spare room too; nothing is kept from call to call.
func TestAnswers(t *testing.T) {
	for _, d := range documents() {
		events := eventsOf(t, d)
		for _, q := range queries() {
			p := query(t, q)
			one, _ := half.Verdicts(events, p)
			two, _ := half.Verdicts(events, p)
			first, _ := half.Told(events, p)
			second, _ := half.Told(events, p)
			want, told := slices.Clone(one), slices.Clone(first)
			for i := range one[:cap(one)] {
				one[:cap(one)][i] = api.Verdict{Number: math.MinInt}
			}
			for i := range first[:cap(first)] {
				first[:cap(first)][i] = api.Item{Text: "spoilt"}
			}
			half.Verdicts(events[1:], p)
			half.Holds(events, 99, api.Expr{})
			three, _ := half.Verdicts(events, p)
			third, _ := half.Told(events, p)
			if !slices.Equal(two, want) || !slices.Equal(three, want) || !slices.Equal(second, told) || !slices.Equal(third, told) {
				t.Fatalf("rule 5: %s of %s: %v and %v, want %v; %v and %v, want %v", q, d, two, three, want, second, third, told)
			}
			if !reflect.DeepEqual(events, eventsOf(t, d)) {
				t.Fatalf("rule 5: %s of %s: the events were changed", q, d)
			}
		}
	}
}
