package hopes_test

import (
	"errors"
	"math"
	"strings"
	"testing"

	"gimlet/api"
	"gimlet/hopes"
	"gimlet/net"
)

// What follows holds the calls against tables that were written by hand. What is known of all predicates is written as F, U, T, by their numbers, for each depth from 0 on.

// needTable: P18.3 of a query's net: ahead of all events of the document, and behind each.
func needTable(t *testing.T, q, d string, want ...string) {
	t.Helper()
	n := netOf(t, query(t, q))
	h := started(t, n)
	events := eventsOf(t, d)
	if len(want) != len(events)+1 {
		t.Fatalf("%s of %s: %d events, %d lines", q, d, len(events), len(want))
	}
	for many, w := range want {
		if many > 0 {
			if e := h.Take(events[many-1]); e != api.OK {
				t.Fatalf("P18.2: %s of %s: event %d: %d", q, d, many, e)
			}
		}
		if got := lettersOf(h, len(n.Preds)); got != " "+w {
			t.Errorf("P18.3: %s of %s behind %d events:%s, want %s", q, d, many, got, w)
		}
	}
}

// TestExamples: those of the chapter. The numbers are: 0 the and, 1 some b, 2 the not, 3 some c.
func TestExamples(t *testing.T) {
	needTable(t, `/a[b = "x" and not(c)]`, "<a><b>y</b><c/></a>",
		"UUUU",
		"UUUU UUUU",
		"UUUU UUUU UUUU",
		"UUUU UUUU UUUU FFTF",
		"UUUU UUUU FFTF",
		"UUUU FUFT UUUU",
		"UUUU FUFT FFTF",
		"FFTF FFFT")
	needTable(t, `/a[b = "x" and not(c)]`, "<a><b>x</b></a>", "UUUU", "UUUU UUUU", "UUUU UUUU UUUU", "UUUU UUUU UUUU FFTF", "UUUU UTUU FFTF", "FFTF TTTF")
}

// TestAxes: each axis from each kind of nodes.
func TestAxes(t *testing.T) {
	d := "<a>x<b><a/></b></a>"
	needTable(t, "a[a]", d, "U", "T U", "T U F", "T U U", "T U T U", "T U T F", "T U T", "T F")
	needTable(t, "a[descendant::a]", d, "U", "T U", "T U F", "T U U", "T T T U", "T T T F", "T T T", "T T")
	needTable(t, "a[descendant-or-self::a]", d, "U", "T T", "T T F", "T T U", "T T T T", "T T T T", "T T T", "T T")
	needTable(t, "a[self::a]", d, "F", "F T", "F T F", "F T F", "F T F T", "F T F T", "F T F", "F T")
	needTable(t, "a[self::b]", d, "F", "F F", "F F F", "F F T", "F F T F", "F F T F", "F F T", "F F")
	needTable(t, "a[descendant::b/child::a]", d, "U", "U U", "U U F", "U U U", "T T U U", "T T U F", "T T F", "T T")
}

// TestTests: each test of each kind of nodes, by self; the root above meets node() alone.
func TestTests(t *testing.T) {
	d := "<a>x<é/></a>"
	needTable(t, "a[self::a][self::é][self::*][self::text()][self::node()]", d,
		"FFFFT",
		"FFFFT TFTFT",
		"FFFFT TFTFT FFFTT",
		"FFFFT TFTFT FTTFT",
		"FFFFT TFTFT FTTFT",
		"FFFFT TFTFT")
	needTable(t, "a[*][text()][node()]", d, "UUU", "TUT UUU", "TUT UTT FFF", "TUT TTT UUU", "TUT TTT FFF", "TFT TTT")
}

// TestAttributes: only elements have any, and all is known of them at once.
func TestAttributes(t *testing.T) {
	d := "<a p='' q='1é'>x<b p='2'/></a>"
	needTable(t, "a[@p][@q][@r]", d, "FFF", "FFF TTF", "FFF TTF FFF", "FFF TTF TFF", "FFF TTF TFF", "FFF TTF")
	needTable(t, "a[@p = ''][@p != ''][@q = '1é'][starts-with(@q, '1')][ends-with(@q, '1')][contains(@q, 'é')]", d,
		"FFFFFF", "FFFFFF TFTTFT", "FFFFFF TFTTFT FFFFFF", "FFFFFF TFTTFT FTFFFF", "FFFFFF TFTTFT FTFFFF", "FFFFFF TFTTFT")
	needTable(t, "a[string-length(@q) = 2][string-length(@q) > 2][string-length(@q) < 3][string-length(@p) = 0]", d,
		"FFFF", "FFFF TFTT", "FFFF TFTT FFFF", "FFFF TFTT FFFF", "FFFF TFTT FFFF", "FFFF TFTT")
	needTable(t, "a[*/@p = '2'][.//@q]", d, "UU", "UT UT", "UT UT FF", "UT TT UU", "UT TT FF", "FT TT")
}

// TestPieces: a text comes in pieces, each told by the tag behind it.
func TestPieces(t *testing.T) {
	d := "<a>x<b/>y<b/>z</a>" // behind each b the same is known of the root above and of a
	needTable(t, "a[. = 'xy']", d, "U", "U U", "U U F", "U U U", "U U F", "U U F", "U U U", "U U F", "F F F", "F F")
	needTable(t, "a[. != 'xy']", d, "U", "U U", "U U T", "U U U", "U U T", "U U T", "U U U", "U U T", "T T T", "T T")
	needTable(t, "a[. = 'xyz']", d, "U", "U U", "U U F", "U U U", "U U F", "U U F", "U U U", "U U F", "U U F", "T T")
	needTable(t, "a[starts-with(., 'xy')]", d, "U", "U U", "U U F", "U U U", "U U F", "T T F", "T T U", "T T F", "T T F", "T T")
	needTable(t, "a[starts-with(., 'y')]", d, "U", "U U", "F F F", "F F U", "F F F", "F F T", "F F U", "F F F", "F F F", "F F")
	needTable(t, "a[ends-with(., 'yz')]", d, "U", "U U", "U U F", "U U U", "U U F", "U U F", "U U U", "U U F", "U U F", "T T")
	needTable(t, "a[contains(., 'yz')]", d, "U", "U U", "U U F", "U U U", "U U F", "U U F", "U U U", "U U F", "T T F", "T T")
	needTable(t, "a[string-length(.) = 2]", d, "U", "U U", "U U F", "U U U", "U U F", "U U F", "U U U", "U U F", "F F F", "F F")
	needTable(t, "a[string-length(.) > 1]", d, "U", "U U", "U U F", "U U U", "U U F", "T T F", "T T U", "T T F", "T T F", "T T")
	needTable(t, "a[string-length(.) < 2]", d, "U", "U U", "U U T", "U U U", "U U T", "F F T", "F F U", "F F T", "F F T", "F F")
}

// TestEmptyTexts: of nothing, and where nothing is asked for.
func TestEmptyTexts(t *testing.T) {
	d := "<a><b/>x</a>"
	needTable(t, "a[. = ''][. != ''][starts-with(., '')][ends-with(., '')][contains(., '')]", d,
		"UUTUT", "UUTUT UUTUT", "UUTUT UUTUT UUTUT", "UUTUT UUTUT TFTTT", "FTTUT FTTUT FTTTT", "FTTTT FTTTT")
	needTable(t, "a[string-length(.) = 0][string-length(.) > 0][string-length(.) < 1][string-length(.) < 0]", d,
		"UUUF", "UUUF UUUF", "UUUF UUUF UUUF", "UUUF UUUF TFTF", "FTFF FTFF FTFF", "FTFF FTFF")
}

// TestOverlaps: texts that are found where they begin within one another, and where they begin ahead of an element.
func TestOverlaps(t *testing.T) {
	d := "<a>aa<b>ba<c>ab</c></b></a>"
	needTable(t, "a[contains(., 'aab')]", d, "U", "U U", "U U F", "U U U", "T T U F", "T T U U", "T T T U F", "T T T F", "T T T", "T T")
	needTable(t, "a[starts-with(., 'aaba')][starts-with(., 'baab')][. = 'baab']", d,
		"UUU", "UUU UUU", "UFF UFF FFF", "UFF UFF UUU", "TFF TFF FUU FFF", "TFF TFF FUU UUU", "TFF TFF FTU FFF FFF", "TFF TFF FTU FFF", "TFF TFF FTT", "TFF TFF")
	needTable(t, "a[ends-with(., 'baab')][ends-with(., 'aab')]", d,
		"UU", "UU UU", "UU UU FF", "UU UU UU", "UU UU UU FF", "UU UU UU UU", "UU UU UU UU FF", "UU UU UU FF", "UU UU TT", "TT TT")
}

// TestLogic: 0 the or, 1 the and, 2 some b, 3 the not, 4 some c, 5 some d.
func TestLogic(t *testing.T) {
	needTable(t, "a[b and not(c) or d]", "<a><b/><c/><d/></a>",
		"UUUUUU",
		"UUUUUU UUUUUU",
		"UUUUUU UUTUUU UUUUUU",
		"UUUUUU UUTUUU FFFTFF",
		"UUUUUU UFTFTU UUUUUU",
		"UUUUUU UFTFTU FFFTFF",
		"UUUUUU TFTFTT UUUUUU",
		"UUUUUU TFTFTT FFFTFF",
		"FFFTFF TFTFTT")
	needTable(t, "a[not(not(b)) and (b or not(b))]", "<a><b/></a>", // 0 the and, 1 not, 2 not, 3 some b, 4 the or, 5 some b, 6 not, 7 some b
		"UUUUUUUU", "UUUUUUUU UUUUUUUU", "UUUUUUUU TTFTTTFT UUUUUUUU", "UUUUUUUU TTFTTTFT FFTFTFTF", "FFTFTFTF TTFTTTFT")
}

// TestWithin: predicates within predicates, and several at one step: 0 some b[..][..], 1 some c, 2 the not, 3 some d = "x".
func TestWithin(t *testing.T) {
	needTable(t, "a[.//b[c][not(d = 'x')]]", "<a><b><d>x</d><c/></b><b><c/></b></a>",
		"UUUU",
		"UUUU UUUU",
		"UUUU UUUU UUUU",
		"UUUU UUUU UUUU UUUU",
		"UUUU UUUU UUUU UUUU FFTF",
		"UUUU UUUU UUFT FFTF",
		"UUUU UUUU UTFT UUUU",
		"UUUU UUUU UTFT FFTF",
		"UUUU UUUU FTFT", // the first b isn't one, as its d is x
		"UUUU UUUU UUUU",
		"UUUU UUUU UTUU UUUU",
		"UUUU UUUU UTUU FFTF",
		"TUUU TUUU FTTF", // that the second has no such d is known at its end
		"TFTF TFTF")
}

// TestWholeExamples: those of the whole that say what is known behind which event.
func TestWholeExamples(t *testing.T) {
	needTable(t, "//a[b]", "<r><a><b/></a><a/></r>", "U", "U U", "U U U", "U U T U", "U U T F", "U U T", "U U U", "U U F", "F F")
	needTable(t, "//*[x]", "<a><b><x/></b></a>", "U", "U U", "U U U", "U U T U", "U U T F", "U U T", "F F")
	needTable(t, "a[not(b)]", "<a><b/></a>", "UU", "UU UU", "UU FT UU", "UU FT TF", "TF FT")
	needTable(t, "//text()[contains(., 'é')]", "<a>x<!-- -->&#xE9;<![CDATA[<]]></a>", "U", "U U", "T T T", "T T")
}

// TestNoPredicates: there is no number to ask for.
func TestNoPredicates(t *testing.T) {
	h := started(t, netOf(t, query(t, "//a/b")))
	for i, e := range eventsOf(t, "<a>x<b/></a>") {
		if h.Take(e) != api.OK {
			t.Fatalf("P18.2: event %d", i)
		}
		if v, e := h.Truth(0, 0); v != 0 || e != api.ErrRange {
			t.Errorf("P18.3: behind event %d: %d, %d", i, v, e)
		}
	}
}

// TestNone: a nil one.
func TestNone(t *testing.T) {
	var h *hopes.Hopes
	for _, e := range append(eventsOf(t, "<a>x</a>"), api.Event{}, api.Event{Kind: 9}) {
		if got := h.Take(e); got != api.ErrNil {
			t.Errorf("P18.2: Take: %d", got)
		}
	}
	for _, depth := range []int{math.MinInt, -1, 0, 1, math.MaxInt} {
		for _, pred := range []int{math.MinInt, -1, 0, 1, math.MaxInt} {
			if v, e := h.Truth(depth, pred); v != 0 || e != api.ErrNil {
				t.Errorf("P18.3: Truth(%d, %d) = %d, %d", depth, pred, v, e)
			}
		}
	}
	if h.Entries() != 0 {
		t.Errorf("P18.4: %d", h.Entries())
	}
}

// TestErrors: the errors are those of api, by their names.
func TestErrors(t *testing.T) {
	_, shape := hopes.New(api.Net{})
	h := started(t, netOf(t, query(t, "a[b]")))
	_, depth := h.Truth(1, 0)
	for i, e := range []error{(*hopes.Hopes)(nil).Take(api.Event{}), depth, shape, h.Take(api.Event{})} {
		if want := []api.Errno{1, 2, 6, 6}[i]; !errors.Is(e, want) {
			t.Errorf("error %d: %v, want %v", i, e, want)
		}
	}
}

// TestMadeOtherwise: rule 6: the calls of what New didn't make end.
func TestMadeOtherwise(t *testing.T) {
	h := new(hopes.Hopes)
	a := started(t, netOf(t, query(t, "a[. = 'xy'][b]")))
	b := *a
	for _, d := range []string{"<a>x<b/>y</a>", "<a><a><a>x</a></a></a>"} {
		for i, e := range eventsOf(t, d) {
			for _, each := range []*hopes.Hopes{h, a, &b} {
				each.Take(e)
				each.Truth(i, 0)
				each.Truth(0, i)
				each.Entries()
			}
		}
	}
}

// needNew: P18.1, of any net.
func needNew(t *testing.T, what string, n api.Net) bool {
	t.Helper()
	want := net.Check(n)
	h, e := hopes.New(n)
	if e != want || (h != nil) != (e == api.OK) {
		t.Errorf("P18.1: %s: New: %v, %d, want %d", what, h != nil, e, want)
	}
	return e == api.OK
}

// TestNew: the nets of queries, and each of their fields and lists changed.
func TestNew(t *testing.T) {
	for _, q := range append(queries(), "a", "//a/text()", "a[b]/c[d or e]") {
		n := netOf(t, query(t, q))
		if !needNew(t, q, n) {
			t.Errorf("P18.1: %s: refused", q)
		}
		for what, spoil := range spoilers() {
			m := netOf(t, query(t, q))
			if !spoil(&m) {
				continue
			}
			if needNew(t, q+", "+what, m) {
				t.Errorf("P18.1: %s, %s: taken", q, what)
			}
		}
	}
	for what, n := range map[string]api.Net{
		"nothing": {}, "only Main": {Main: 1}, "no Main": {Rows: []api.Row{{Name: "a"}}}, "a pred alone": {Preds: []api.Pred{{}}},
		"a ring":           {Main: 1, Rows: []api.Row{{Name: "a", Preds: []int{0}}, {Name: "b", Preds: []int{0}}}, Preds: []api.Pred{{Op: api.Some, First: 1, Count: 1}}},
		"its own part":     {Main: 1, Rows: []api.Row{{Name: "a", Preds: []int{0}}}, Preds: []api.Pred{{Op: api.Not, Args: []int{0}}}},
		"rows of its path": {Main: 1, Rows: []api.Row{{Name: "a", Preds: []int{0}}}, Preds: []api.Pred{{Op: api.Some, First: 0, Count: 1}}},
	} {
		if needNew(t, what, n) {
			t.Errorf("P18.1: %s: taken", what)
		}
	}
}

// spoilers: what makes of a query's net one that is none; they answer whether there is something to change.
func spoilers() map[string]func(n *api.Net) bool {
	row := func(change func(r *api.Row)) func(n *api.Net) bool {
		return func(n *api.Net) bool { change(&n.Rows[len(n.Rows)-1]); return true }
	}
	pred := func(change func(x *api.Pred)) func(n *api.Net) bool {
		return func(n *api.Net) bool {
			if len(n.Preds) > 0 {
				change(&n.Preds[len(n.Preds)-1]) // always a Some
			}
			return len(n.Preds) > 0
		}
	}
	return map[string]func(n *api.Net) bool{
		"Main greater": func(n *api.Net) bool { n.Main++; return true }, "Main less": func(n *api.Net) bool { n.Main--; return true }, "Main great": func(n *api.Net) bool { n.Main = math.MaxInt; return true }, "Main below 0": func(n *api.Net) bool { n.Main = -1; return true },
		"a row more":   func(n *api.Net) bool { n.Rows = append(n.Rows, api.Row{Name: "a"}); return true },
		"a pred more":  func(n *api.Net) bool { n.Preds = append(n.Preds, api.Pred{Op: api.Some}); return true },
		"no last row":  func(n *api.Net) bool { n.Rows = n.Rows[:len(n.Rows)-1]; return true },
		"no last pred": func(n *api.Net) bool { n.Preds = n.Preds[:max(0, len(n.Preds)-1)]; return len(n.Rows) > n.Main },
		"preds about": func(n *api.Net) bool {
			last := len(n.Preds) - 1
			if last > 0 {
				n.Preds[0], n.Preds[last] = n.Preds[last], n.Preds[0]
			}
			return last > 0 && n.Preds[0].Op != n.Preds[last].Op
		},
		"an axis that is none": row(func(r *api.Row) { r.Axis = 4 }), "an axis below 0": row(func(r *api.Row) { r.Axis = -1 }), "a test that is none": row(func(r *api.Row) { r.Test, r.Name = 4, "" }), "a test below 0": row(func(r *api.Row) { r.Test, r.Name = -1, "" }),
		"no name": row(func(r *api.Row) { r.Test, r.Name = api.Named, "" }), "a name that is none": row(func(r *api.Row) { r.Test, r.Name = api.Named, "1" }), "a name too many": row(func(r *api.Row) { r.Test, r.Name = api.AnyNode, "a" }),
		"a pred of a row that isn't there": row(func(r *api.Row) { r.Preds = append(r.Preds, 99) }), "a pred below 0": row(func(r *api.Row) { r.Preds = append(r.Preds, -1) }), "pred 0 once more": row(func(r *api.Row) { r.Preds = append(r.Preds, 0) }),
		"an op that is none": pred(func(x *api.Pred) { x.Op = 4 }), "an op below 0": pred(func(x *api.Pred) { x.Op = -1 }), "an And of nothing": pred(func(x *api.Pred) { *x = api.Pred{} }), "a Not of nothing": pred(func(x *api.Pred) { *x = api.Pred{Op: api.Not} }),
		"a part too many": pred(func(x *api.Pred) { x.Args = []int{0} }), "First less": pred(func(x *api.Pred) { x.First-- }), "First great": pred(func(x *api.Pred) { x.First = math.MaxInt }), "First below 0": pred(func(x *api.Pred) { x.First = math.MinInt }), "Count 0": pred(func(x *api.Pred) { x.Count = 0 }), "Count greater": pred(func(x *api.Pred) { x.Count++ }), "Count great": pred(func(x *api.Pred) { x.Count = math.MaxInt }),
		"an attribute that is none": pred(func(x *api.Pred) { x.Attr = "a b" }), "a comparison that is none": pred(func(x *api.Pred) { x.Compare = 9 }), "a comparison below 0": pred(func(x *api.Pred) { x.Compare = -1 }), "a text too many": pred(func(x *api.Pred) { x.Compare, x.Text, x.Number = api.Exists, "x", 0 }), "both quotes": pred(func(x *api.Pred) { x.Compare, x.Text, x.Number = api.Equal, `'"`, 0 }), "wrong bytes": pred(func(x *api.Pred) { x.Compare, x.Text, x.Number = api.Equal, "\xFF", 0 }),
		"a number too great": pred(func(x *api.Pred) { x.Compare, x.Text, x.Number = api.Longer, "", api.MaxNumber+1 }), "a number below 0": pred(func(x *api.Pred) { x.Compare, x.Text, x.Number = api.Longer, "", -1 }), "a number too many": pred(func(x *api.Pred) { x.Compare, x.Text, x.Number = api.Equal, "", 1 }),
	}
}

// TestNestedNew: the deepest nets, and one deeper.
func TestNestedNew(t *testing.T) {
	deepest := there(child("a"))
	for range api.MaxNested - 1 {
		deepest = no(deepest)
	}
	n := netOf(t, steps(child("a", deepest)))
	if !needNew(t, "a net that is nested as deep as may be", n) {
		t.Error("P18.1: the deepest net: refused")
	}
	some, last := n.Preds[len(n.Preds)-1], len(n.Preds)-1
	n.Preds[last] = api.Pred{Op: api.Not, Args: []int{last + 1}}
	n.Preds = append(n.Preds, some)
	if needNew(t, "a net that is nested too deep", n) {
		t.Error("P18.1: a net that is nested too deep: taken")
	}
	long := strings.Repeat("a/", 20000) + "a"
	if !needNew(t, "a long one", netOf(t, query(t, "a["+long+"]"))) {
		t.Error("P18.1: a long path: refused")
	}
}
