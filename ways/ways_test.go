package ways_test

import (
	"errors"
	"math"
	"strconv"
	"strings"
	"testing"

	"gimlet/api"
	"gimlet/net"
	"gimlet/ways"
)

// What follows holds the calls against tables that were written by hand.

// played: what calls answer that are written as words: +a is Enter of an Open of a, ' of a Text, - is Leave, 1.0=T is Set of predicate 0 at depth 1, ? is News, # are Entries and Formulas. The nodes' numbers are 0, 1, 2 ..; an answer OK isn't written. Each answer is held against the chapter, too.
func played(t *testing.T, q, script string) string {
	t.Helper()
	x := newTrial(t, netOf(t, query(t, q)))
	var out []string
	for _, word := range strings.Fields(script) {
		e := api.OK
		switch word[0] {
		case '+':
			e = x.enter(x.next(api.Open, word[1:]))
		case '\'':
			e = x.enter(x.next(api.Text, ""))
		case '-':
			e = x.leave()
		case '?':
			out = append(out, "["+x.news()+"]")
		case '#':
			out = append(out, strconv.Itoa(x.w.Entries())+","+strconv.Itoa(x.w.Formulas()))
		default:
			e = x.set(int(word[0]-'0'), int(word[2]-'0'), api.Truth(strings.IndexByte("FUT", word[4])))
		}
		if e != api.OK {
			out = append(out, "e"+strconv.Itoa(int(e)))
		}
	}
	return strings.Join(out, " ")
}

func needPlayed(t *testing.T, q, script, want string) {
	t.Helper()
	if got := played(t, q, script); got != want {
		t.Errorf("P19.2 to P19.6: %s: %s: %s, want %s", q, script, got, want)
	}
}

// TestExamples: those of the chapter.
func TestExamples(t *testing.T) {
	q := "//a[x]//b"
	needPlayed(t, q, "+a ? #", "[] 4,2")
	needPlayed(t, q, "+a ? +b ? 2.0=F - 1.0=T ?", "[] [1U] [1T]")
	needPlayed(t, q, "+a ? +b ? 2.0=F - 1.0=F ? ?", "[] [1U] [1F] []")
	needPlayed(t, q, "+a ? +b 1.0=T ?", "[] [1T]")
	needPlayed(t, q, "+a - 1.0=F 1.0=T 5.0=T 0.7=T ? #", "e6 e6 e2 e2 [] 2,0")
	w := started(t, netOf(t, query(t, q)))
	for i, c := range []struct {
		e    api.Event
		want api.Errno
	}{
		{api.Event{Kind: api.Close, Number: 1}, api.ErrShape}, {api.Event{Number: 1, Name: "a"}, api.OK}, {api.Event{Number: 1, Name: "a"}, api.ErrShape}, {api.Event{Kind: api.Close, Number: 2}, api.ErrShape},
	} {
		if got := w.Enter(c.e); got != c.want {
			t.Errorf("P19.2: example 5, %d: %d, want %d", i, got, c.want)
		}
	}
}

// TestAxes: each axis from the root above, from an element and at a text.
func TestAxes(t *testing.T) {
	script := "# +a ? # +b ? # ' ? #"
	needPlayed(t, "child::*", script, "0,0 [0T] 1,0 [] 1,0 [] 1,0")
	needPlayed(t, "descendant::*", script, "0,0 [0T] 1,0 [1T] 2,0 [] 2,0")
	needPlayed(t, "descendant-or-self::*", script, "0,0 [0T] 1,0 [1T] 2,0 [] 2,0")
	needPlayed(t, "self::*", script, "0,0 [] 0,0 [] 0,0 [] 0,0")
	needPlayed(t, "child::node()", script, "0,0 [0T] 1,0 [] 1,0 [] 1,0")
	needPlayed(t, "descendant::node()", script, "0,0 [0T] 1,0 [1T] 2,0 [2T] 3,0")
	needPlayed(t, "descendant-or-self::node()", script, "1,0 [0T] 2,0 [1T] 3,0 [2T] 4,0")
	needPlayed(t, "self::node()", script, "1,0 [] 1,0 [] 1,0 [] 1,0")
	needPlayed(t, "a/child::node()", script, "0,0 [] 1,0 [1T] 2,0 [] 2,0")
	needPlayed(t, "a/descendant::node()", script, "0,0 [] 1,0 [1T] 2,0 [2T] 3,0")
	needPlayed(t, "a/descendant-or-self::node()", script, "0,0 [0T] 2,0 [1T] 3,0 [2T] 4,0")
	needPlayed(t, "a/self::node()", script, "0,0 [0T] 2,0 [] 2,0 [] 2,0")
}

// TestTests: each test at each kind of nodes; the root above meets node() alone.
func TestTests(t *testing.T) {
	script := "# +a +é ' ? #"
	needPlayed(t, "descendant-or-self::a", script, "0,0 [0T] 1,0")
	needPlayed(t, "descendant-or-self::é", script, "0,0 [1T] 1,0")
	needPlayed(t, "descendant-or-self::*", script, "0,0 [0T 1T] 2,0")
	needPlayed(t, "descendant-or-self::text()", script, "0,0 [2T] 1,0")
	needPlayed(t, "descendant-or-self::node()", script, "1,0 [0T 1T 2T] 4,0")
}

// TestPredicates: at several steps, and several at one step.
func TestPredicates(t *testing.T) {
	needPlayed(t, "a[x][y]", "+a ? 1.0=T ? 1.1=T ?", "[0U] [] [0T]")
	needPlayed(t, "a[x][y]", "+a ? 1.1=F ? 1.0=T ? -", "[0U] [0F] []")
	needPlayed(t, "a[x][y]", "+b 1.0=T 1.1=T ? - +a 1.0=T 1.1=T ?", "[] [1T]")
	needPlayed(t, "a[x]/b[y]", "+a ? +b ? 2.1=T ? 1.0=T ?", "[] [1U] [] [1T]")
	needPlayed(t, "a[x]/b[y]", "+a ? +b ? 2.1=F ? 1.0=T ?", "[] [1U] [1F] []")
	needPlayed(t, "a[x]/b[y]", "+a +b 2.0=F 2.1=T - +b 2.1=F 2.0=T - +b ? 1.0=T ? 2.1=T ?", "[1U 3U] [1T] [3T]")
	needPlayed(t, "self::node()[x]/a", "+a ? 0.0=F ? +b 1.0=T ?", "[0U] [0F] []")
	needPlayed(t, "//self::node()[x]/a", "+a +a ? 0.0=T ? 1.0=F ? 2.0=T ?", "[0U 1U] [0T] [1F] []")
	needPlayed(t, "//self::node()[x]//a", "+a +a ? 1.0=T ? 0.0=F ?", "[0U 1U] [1T] [0F]")
	needPlayed(t, "//a[not(x and y)]//b[z]", "+a +b # 2.4=T ? 1.1=T", "7,4 [1U] e2") // 0 the not, 1 the and, 2 x, 3 y, 4 z
}

// TestTexts: a text is left by an Enter and by a Leave, and what isn't set of it is False then.
func TestTexts(t *testing.T) {
	q := "//text()[x][y]"
	needPlayed(t, q, "+a 1.0=F 1.1=F ' ? # - ? #", "[1U] 4,1 [1F] 1,0")
	needPlayed(t, q, "+a ' ? +b ?", "[1U] [1F]")
	needPlayed(t, q, "+a ' ? ' ? ' ?", "[1U] [1F 2U] [2F 3U]")
	needPlayed(t, q, "+a ' 2.0=T ' 2.0=T 2.1=T ' ? 2.0=U 2.0=F ?", "[2T 3U] [3F]")
	needPlayed(t, q, "+a ' 2.0=T 2.1=T ? 3.0=T 1.0=F 1.1=T - 1.0=T ' ? - 2.0=T ?", "[1T] e2 e2 e6 [] e6 e2 []")
	needPlayed(t, "a[x]/text()[y]", "+a 1.1=F ' ? 2.1=T +b 2.0=F 2.1=F - ? 1.0=T ?", "[1U] [] [1T]")
	needPlayed(t, "a[x]/text()", "+a ' ' ? 2.0=F ? 1.0=T - ? ' ' -", "[1U 2U] [] [1T 2T] e6 e6 e6")
	needPlayed(t, "//text()/self::node()[x]", "+a 1.0=T ' ? - ? +a ' 2.0=T - ?", "[1U] [1F] e6 [3T]")
}

// TestLeft: nodes that were left hang on what is set of the nodes in which they were.
func TestLeft(t *testing.T) {
	q := "//a[x]//c"
	needPlayed(t, q, "+a +b +a +c ? 4.0=F - 3.0=F - ? 2.0=F - 1.0=T ?", "[3U] [] [3T]")
	needPlayed(t, q, "+a +b +a +c ? 4.0=F - 3.0=F - ? 2.0=F - 1.0=F ?", "[3U] [] [3F]")
	needPlayed(t, q, "+a +b +a +c ? 4.0=F - 3.0=T ? -", "[3U] [3T]")
	needPlayed(t, q, "+a +b +a +c 4.0=F - 3.0=T - ? 2.0=F - 1.0=F ?", "[3T] []")
	needPlayed(t, q, "+a +b +a +c 4.0=F - 3.0=F - 2.0=F - 1.0=F ? - ?", "[] []")
	needPlayed(t, q, "+a 1.0=F +c 2.0=F - ? - +c 1.0=T ?", "[] []")
	needPlayed(t, "//a[x]/b[y]/c", "+a +b +c 3.0=F 3.1=F - ? 2.1=T 2.0=F - ? +b +c 3.0=F 3.1=F - 2.1=F 2.0=F - ? 1.0=T ?", "[2U] [] [] [2T]")
	needPlayed(t, "self::node()[x]//a", "+a 1.0=F - ? +b +a 2.0=F - ? 1.0=F - +a ? 0.0=T ?", "[0U] [2U] [3U] [0T 2T 3T]")
	needPlayed(t, "//a[x]/descendant-or-self::a[y]/descendant-or-self::a", "+a +a 2.0=T 2.1=F - ? 1.0=T ? 1.1=T ?", "[0U 1U] [] [0T 1T]")
	needPlayed(t, "//a[x]/descendant-or-self::a[y]/descendant-or-self::a", "+a +a 2.0=F 2.1=T - ? 1.1=F ? 1.0=T ?", "[0U 1U] [0F] [1T]")
	needPlayed(t, "//a[x]/descendant-or-self::a[y]/descendant-or-self::a", "+a +a 2.0=F 2.1=T - ? 1.1=F ? 1.0=F ?", "[0U 1U] [0F] [1F]")
}

// TestSeldomNews: News that is asked only now and then.
func TestSeldomNews(t *testing.T) {
	q := "//a[x]//b"
	needPlayed(t, q, "? ? +a ? ? +b +b ? ? - 3.0=F - +b ? 1.0=T ? ?", "[] [] [] [] [1U 2U] [] e6 [3U] [1T 2T 3T] []")
	needPlayed(t, q, "+a +b 2.0=F - 1.0=F - +a +b 2.0=F - ? 1.0=T - ?", "[3U] [3T]")
	needPlayed(t, q, "+a +b 2.0=F - 1.0=T - +a +b 2.0=F - ? 1.0=F - ? ?", "[1T 3U] [3F] []")
}

// TestCounts: P19.6 by hand, of what comes, is set and is left.
func TestCounts(t *testing.T) {
	needPlayed(t, "//a[x]//b", "# +a # +b # ' # 3.0=T # 2.0=F # +b # 3.0=F - # 2.0=F - # 1.0=T # - #", "1,0 4,2 7,4 9,5 9,5 9,5 10,6 7,4 4,2 4,0 1,0")
	needPlayed(t, "a[x]/b", "+a # +b # 1.0=F #", "1,1 2,2 0,0")
	needPlayed(t, "a[x]/b", "+a # +b # 1.0=T #", "1,1 2,2 2,0")
	needPlayed(t, ".", "+a ? # ' # - #", "[] 1,0 1,0 1,0")
}

// TestRootAgain: behind an element right in the root above another one may come; that isn't ruled out here.
func TestRootAgain(t *testing.T) {
	needPlayed(t, "a", "+a ? - ? +a ? ' - - ' ?", "[0T] [] [1T] e6 e6 []")
	needPlayed(t, "a[x]", "+a 1.0=T - +a 1.0=F - +a ?", "[0T 2U]")
}

// TestUnknownAgain: Unknown may be set where nothing else was, and a value may be set again.
func TestUnknownAgain(t *testing.T) {
	needPlayed(t, "a[x]", "+a 1.0=U 1.0=U - 1.0=T 1.0=T 1.0=U 1.0=F ? 1.0=T -", "e6 e6 e6 [0T]")
	needPlayed(t, "a[x]", "+a 1.0=F 1.0=F 1.0=U 1.0=T ? -", "e6 e6 []")
}

// TestNumbers: they rise; the first is at least 0, and there may be gaps.
func TestNumbers(t *testing.T) {
	x := newTrial(t, netOf(t, query(t, "//node()[x]")))
	for _, c := range []struct {
		kind   api.EventKind
		number int
		want   api.Errno
	}{
		{api.Open, -1, api.ErrShape}, {api.Open, math.MinInt, api.ErrShape}, {api.Text, 0, api.ErrShape}, {api.Open, 3, api.OK}, {api.Open, 3, api.ErrShape}, {api.Text, 3, api.ErrShape}, {api.Text, 2, api.ErrShape},
		{api.Text, 4, api.OK}, {api.Text, 4, api.ErrShape}, {api.Open, 4, api.ErrShape}, {api.Open, 0, api.ErrShape}, {api.Open, math.MaxInt - 1, api.OK}, {api.Text, math.MaxInt, api.OK}, {api.Text, math.MaxInt, api.ErrShape}, {api.Open, math.MinInt, api.ErrShape},
	} {
		if got := x.enter(api.Event{Kind: c.kind, Number: c.number}); got != c.want {
			t.Errorf("P19.2: %d, number %d: %d, want %d", c.kind, c.number, got, c.want)
		}
	}
	x.setAll(3, func() api.Truth { return api.True })
	if got, want := x.news(), "3U "+strconv.Itoa(math.MaxInt-1)+"U "+strconv.Itoa(math.MaxInt)+"T"; got != want {
		t.Errorf("P19.5: %s, want %s", got, want)
	}
}

// TestOnlyThese: of an event only Kind, Number and, of an Open, Name count.
func TestOnlyThese(t *testing.T) {
	n := netOf(t, query(t, "//a[x]/node()"))
	one, two := started(t, n), started(t, n)
	for i, e := range []api.Event{{Name: "a"}, {Number: 1, Name: "a"}, {Kind: api.Text, Number: 2}, {Number: 3, Name: ""}, {Number: 4, Name: "\xFF<"}} {
		full := e
		full.Depth, full.From, full.To, full.Text, full.Attrs = -7, 9, -1, "\xFF", []api.Attr{{Name: "x"}, {Name: "x"}, {}}
		if e.Kind == api.Text {
			full.Name = "a"
		}
		if f, g := one.Enter(e), two.Enter(full); f != api.OK || g != api.OK {
			t.Errorf("P19.2: %d: %d, %d", i, f, g)
		}
		if a, b := said(one.News()), said(two.News()); a != b || one.Entries() != two.Entries() || one.Formulas() != two.Formulas() {
			t.Errorf("P19.2: %d: %s, and with more in it %s", i, a, b)
		}
	}
}

// TestNone: a nil one.
func TestNone(t *testing.T) {
	var w *ways.Ways
	for kind := api.EventKind(-1); kind < 4; kind++ {
		if e := w.Enter(api.Event{Kind: kind, Number: -1}); e != api.ErrNil {
			t.Errorf("P19.7: Enter: %d", e)
		}
	}
	for _, number := range []int{math.MinInt, -1, 0, 1, math.MaxInt} {
		if e := w.Set(number, number, api.Truth(number)); e != api.ErrNil {
			t.Errorf("P19.7: Set: %d", e)
		}
	}
	if e := w.Leave(); e != api.ErrNil || len(w.News()) != 0 || w.Entries() != 0 || w.Formulas() != 0 {
		t.Errorf("P19.7: Leave: %d, %v, %d, %d", e, w.News(), w.Entries(), w.Formulas())
	}
}

// TestErrors: the errors are those of api, by their names.
func TestErrors(t *testing.T) {
	_, shape := ways.New(api.Net{})
	w := started(t, netOf(t, query(t, "a[b]")))
	for i, e := range []error{(*ways.Ways)(nil).Leave(), w.Set(1, 0, api.True), shape, w.Leave(), w.Enter(api.Event{Kind: api.Close})} {
		if want := []api.Errno{1, 2, 6, 6, 6}[i]; !errors.Is(e, want) {
			t.Errorf("error %d: %v, want %v", i, e, want)
		}
	}
}

// TestMadeOtherwise: rule 6: the calls of what New didn't make end.
func TestMadeOtherwise(t *testing.T) {
	w := new(ways.Ways)
	a := started(t, netOf(t, query(t, "//a[x]//b[y]")))
	b := *a
	for _, d := range []string{"<a>x<b/>y</a>", "<a><a><b>x</b></a></a>"} {
		for i, e := range eventsOf(t, d) {
			for k, each := range []*ways.Ways{w, a, &b} {
				e.Number += 10 * k
				each.Enter(e)
				each.Set(i, 0, api.True)
				each.Set(i, 1, api.False)
				each.Leave()
				each.News()
				each.Entries()
				each.Formulas()
			}
		}
	}
}

// needNew: P19.1, of any net.
func needNew(t *testing.T, what string, n api.Net) bool {
	t.Helper()
	want := net.Check(n)
	w, e := ways.New(n)
	if e != want || (w != nil) != (e == api.OK) {
		t.Errorf("P19.1: %s: New: %v, %d, want %d", what, w != nil, e, want)
	}
	return e == api.OK
}

// TestNew: the nets of queries, and each of their fields and lists changed.
func TestNew(t *testing.T) {
	for _, q := range queries() {
		n := netOf(t, query(t, q))
		if !needNew(t, q, n) {
			t.Errorf("P19.1: %s: refused", q)
		}
		for what, spoil := range spoilers() {
			m := netOf(t, query(t, q))
			if spoil(&m) && needNew(t, q+", "+what, m) {
				t.Errorf("P19.1: %s, %s: taken", q, what)
			}
		}
	}
	for what, n := range map[string]api.Net{
		"nothing": {}, "only Main": {Main: 1}, "no Main": {Rows: []api.Row{{Name: "a"}}}, "a pred alone": {Preds: []api.Pred{{}}}, "Main great": {Main: math.MaxInt, Rows: []api.Row{{Name: "a"}}}, "Main below 0": {Main: -1, Rows: []api.Row{{Name: "a"}}},
		"a ring":       {Main: 1, Rows: []api.Row{{Name: "a", Preds: []int{0}}, {Name: "b", Preds: []int{0}}}, Preds: []api.Pred{{Op: api.Some, First: 1, Count: 1}}},
		"its own part": {Main: 1, Rows: []api.Row{{Name: "a", Preds: []int{0}}}, Preds: []api.Pred{{Op: api.Not, Args: []int{0}}}},
	} {
		if needNew(t, what, n) {
			t.Errorf("P19.1: %s: taken", what)
		}
	}
}

// spoilers: what makes of a query's net one that is none; they answer whether there is something to change.
func spoilers() map[string]func(n *api.Net) bool {
	row := func(change func(r *api.Row)) func(n *api.Net) bool {
		return func(n *api.Net) bool { change(&n.Rows[0]); return true }
	}
	pred := func(change func(x *api.Pred)) func(n *api.Net) bool {
		return func(n *api.Net) bool {
			if len(n.Preds) > 0 {
				change(&n.Preds[len(n.Preds)-1]) // always a Some
			}
			return len(n.Preds) > 0
		}
	}
	return map[string]func(n *api.Net) bool{
		"Main greater": func(n *api.Net) bool { n.Main++; return true }, "Main less": func(n *api.Net) bool { n.Main--; return true },
		"a row more": func(n *api.Net) bool { n.Rows = append(n.Rows, api.Row{Name: "a"}); return true }, "a pred more": func(n *api.Net) bool { n.Preds = append(n.Preds, api.Pred{Op: api.Some}); return true },
		"no last pred":       func(n *api.Net) bool { n.Preds = n.Preds[:max(0, len(n.Preds)-1)]; return len(n.Rows) > n.Main },
		"an axis below 0":    row(func(r *api.Row) { r.Axis = -1 }),
		"an axis too great":  row(func(r *api.Row) { r.Axis = 4 }),
		"a test below 0":     row(func(r *api.Row) { r.Test, r.Name = -1, "" }),
		"a test too great":   row(func(r *api.Row) { r.Test, r.Name = 4, "" }),
		"no name":            row(func(r *api.Row) { r.Test, r.Name = api.Named, "" }),
		"a name too many":    row(func(r *api.Row) { r.Test, r.Name = api.AnyNode, "a" }),
		"a pred too great":   row(func(r *api.Row) { r.Preds = append(r.Preds, 99) }),
		"a pred below 0":     row(func(r *api.Row) { r.Preds = append(r.Preds, -1) }),
		"pred 0 once more":   row(func(r *api.Row) { r.Preds = append(r.Preds, 0) }),
		"an op that is none": pred(func(x *api.Pred) { x.Op = 4 }),
		"First less":         pred(func(x *api.Pred) { x.First-- }),
		"Count greater":      pred(func(x *api.Pred) { x.Count++ }),
		"an attr's name":     pred(func(x *api.Pred) { x.Attr = "a b" }),
	}
}
