package hopes_test

import (
	"reflect"
	"runtime"
	"slices"
	"strings"
	"testing"
	"time"
	"unsafe"

	"gimlet/api"
	"gimlet/ask"
	"gimlet/hopes"
)

// What follows tries what is great, and whose memory it is.

// within: what is tried ends in a minute.
func within(t *testing.T, try func()) {
	t.Helper()
	done := make(chan struct{})
	go func() {
		defer close(done)
		try()
	}()
	select {
	case <-done:
	case <-time.After(time.Minute):
		t.Error("P1, Limits: it doesn't end in a minute")
	}
}

// writer makes a document's events one by one, and gives each to a Hopes. What is wrong it notes once.
type writer struct {
	t     *testing.T
	h     *hopes.Hopes
	n     api.Net
	nodes int
	open  []api.Event
}

func newWriter(t *testing.T, q string) *writer {
	n := netOf(t, query(t, q))
	return &writer{t: t, h: started(t, n), n: n}
}

func (w *writer) take(e api.Event) {
	w.t.Helper()
	size := len(w.n.Rows) + len(w.n.Preds)
	if got := w.h.Take(e); got != api.OK {
		w.t.Fatalf("P18.2: node %d: %d", e.Number, got)
	}
	if n := w.h.Entries(); n < 0 || n > 8*(e.Depth+1)*size*size {
		w.t.Fatalf("P18.4: node %d at %d: Entries %d, size %d", e.Number, e.Depth, n, size)
	}
}

func (w *writer) start(name string) {
	w.t.Helper()
	e := api.Event{Kind: api.Open, Number: w.nodes, Depth: len(w.open) + 1, Name: name}
	w.open = append(w.open, e)
	w.nodes++
	w.take(e)
}

func (w *writer) text(s string) {
	w.t.Helper()
	w.take(api.Event{Kind: api.Text, Number: w.nodes, Depth: len(w.open) + 1, Text: s})
	w.nodes++
}

func (w *writer) end() {
	w.t.Helper()
	last := len(w.open) - 1
	e := w.open[last]
	w.open = w.open[:last]
	w.take(api.Event{Kind: api.Close, Number: e.Number, Depth: e.Depth, Name: e.Name})
}

// need: what is known of a pred at the depths of a run.
func (w *writer) need(from, to, pred int, want api.Truth) {
	w.t.Helper()
	for depth := from; depth <= to; depth++ {
		if v, e := w.h.Truth(depth, pred); v != want || e != api.OK {
			w.t.Errorf("P18.3: pred %d at %d of %d: %d, %d, want %d", pred, depth, len(w.open), v, e, want)
			return
		}
	}
}

// TestDeep: as many open elements as a document that is read may have, with a text in each.
func TestDeep(t *testing.T) {
	t.Parallel()
	within(t, func() {
		const deep, some = api.MaxDepth, 100
		// 0 some .//b, 1 some b, 2 the not, 3 some *, 4 contains "xx", 5 = "xx..", 6 longer than half of deep, 7 .//*[. = "x"], 8 starts with "xxy", 9 . = "x"
		w := newWriter(t, "//a[.//b][b][not(*)][contains(., 'xx')][. = '"+strings.Repeat("x", some)+"'][string-length(.) > 50000][.//*[. = 'x']][starts-with(., 'xxy')]")
		for range deep - 1 {
			w.start("a")
			w.text("x")
		}
		w.need(0, deep-1, 0, api.Unknown)
		w.need(1, deep-2, 2, api.False)
		w.need(deep-1, deep-1, 2, api.Unknown)
		w.need(0, deep-2, 4, api.True)
		w.need(deep-1, deep-1, 4, api.Unknown)
		w.need(0, deep-1-some, 5, api.False)
		w.need(deep-1-some+1, deep-1, 5, api.Unknown)
		w.need(0, deep-1-50000, 6, api.True)
		w.need(deep-1-50000+1, deep-1, 6, api.Unknown)
		w.need(0, deep-1, 7, api.Unknown)
		w.need(0, deep-3, 8, api.False)
		w.start("b")
		w.need(0, deep-1, 0, api.True)
		w.need(deep, deep, 0, api.Unknown)
		w.need(0, deep-2, 1, api.Unknown)
		w.need(deep-1, deep-1, 1, api.True)
		w.end()
		w.need(deep, deep, 2, api.True)
		w.need(0, deep-1, 7, api.Unknown)
		w.end()
		w.need(0, deep-2, 7, api.True)
		w.need(deep-1, deep-1, 7, api.False)
		for range deep - 2 {
			w.end()
		}
		w.need(0, 1, 0, api.True)
		w.need(0, 1, 5, api.False)
	})
}

// TestLongText: a long text in many open elements, gone through once for each comparison, not once for each element.
func TestLongText(t *testing.T) {
	t.Parallel()
	within(t, func() {
		const deep, long = 50000, 1 << 21
		as, it := strings.Repeat("a", 30000), there(here())
		n := asking(t, withText(it, api.Contains, as+"b"), withText(it, api.Ends, as), withText(it, api.Equal, as), withText(it, api.Begins, as+"c"), withNumber(it, api.LengthIs, api.MaxNumber), withText(it, api.Ends, "ac"), withText(it, api.Contains, "ac"))
		w := &writer{t: t, h: started(t, n), n: n}
		for range deep {
			w.start("a")
			if len(w.open)%50 == 0 {
				w.text("a")
			}
		}
		w.need(0, deep, 2, api.Unknown)
		w.need(0, deep, 6, api.Unknown)
		w.start("a")
		w.text(strings.Repeat("a", long))
		w.need(0, deep+1, 0, api.Unknown)
		w.need(0, deep+1, 2, api.False)
		w.need(0, deep+1, 3, api.False)
		w.need(0, deep+1, 4, api.False)
		w.start("b")
		w.end()
		w.text("c")
		w.need(0, deep+1, 0, api.Unknown)
		w.need(0, deep+1, 6, api.True)
		for range deep + 1 {
			w.end()
		}
		w.need(0, 1, 0, api.False)
		w.need(0, 1, 1, api.False)
		w.need(0, 1, 5, api.True)
	})
}

// TestPeriods: a text asked for that ends in many ways as it begins, and elements opened at each of its characters.
func TestPeriods(t *testing.T) {
	t.Parallel()
	within(t, func() {
		const deep = 5000
		as := strings.Repeat("a", deep)
		w := newWriter(t, "//a[. = '"+as+"'][starts-with(., '"+as+"')][. != '"+as+"b']")
		for range deep {
			w.start("a")
			w.text("a")
		}
		w.need(2, deep, 0, api.Unknown) // the root above and the root element have all of it
		w.need(0, 1, 1, api.True)
		w.need(2, deep, 1, api.Unknown)
		w.start("a")
		w.text(as[:deep/2])
		w.need(0, deep/2, 0, api.False)
		w.need(deep/2+1, deep, 0, api.Unknown) // the first of them has just as many
		w.need(0, deep/2+1, 1, api.True)
		w.need(deep/2+2, deep, 1, api.Unknown)
		w.end()
		w.text("b")
		w.need(0, deep, 0, api.False)
		w.need(deep/2+2, deep, 1, api.False)
		w.need(0, deep/2, 2, api.True)
		w.need(deep/2+1, deep/2+1, 2, api.Unknown)
		w.need(deep/2+2, deep, 2, api.True)
	})
}

// TestLongAsked: a long text asked for, over many small tags: it isn't gone through at each of them.
func TestLongAsked(t *testing.T) {
	t.Parallel()
	within(t, func() {
		long := strings.Repeat("é", 1<<20)
		var list []api.Expr
		for c := api.Equal; c <= api.Contains; c++ {
			list = append(list, withText(attr("x"), c, long), withText(there(here()), c, long))
		}
		n := asking(t, list...)
		w := &writer{t: t, h: started(t, n), n: n}
		w.start("r")
		for i := range 100000 {
			e := api.Event{Kind: api.Open, Number: w.nodes, Depth: 2, Name: "a", Attrs: []api.Attr{{Name: "x", Value: "é"}}}
			w.open = append(w.open, e)
			w.nodes++
			w.take(e)
			w.text("é")
			w.end()
			if got, want := lettersAt(w.h, 2, len(list)), "FFTTFFFFFF"; got != want || i == 0 && lettersAt(w.h, 1, len(list)) != "FUFUFUFUFU" {
				t.Fatalf("P18.3: tag %d: %s, want %s; %s", i, got, want, lettersAt(w.h, 1, len(list)))
			}
		}
		w.end()
	})
}

// TestWide: many nodes right in one; the stacks don't grow by them.
func TestWide(t *testing.T) {
	t.Parallel()
	within(t, func() {
		w := newWriter(t, "//a[b = 'x'][c][not(.//d[. = 'xx'])][contains(., 'xxb')]") // 0 some b, 1 some c, 2 the not, 3 some d, 4 contains; 5 some . = 'xx'
		w.start("a")
		most := 0
		for i := range 100000 {
			w.start("b")
			w.text("xy"[i%2 : i%2+1])
			w.start("d")
			w.text("x")
			w.end()
			if i == 0 {
				most = w.h.Entries()
			}
			if n := w.h.Entries(); n > most {
				t.Fatalf("P18.4: behind %d elements: Entries %d, and at first %d", i, n, most)
			}
			w.end()
			if i == 0 {
				w.need(1, 1, 0, api.Unknown) // b has xx
			}
		}
		w.need(1, 1, 0, api.Unknown)
		w.need(1, 1, 1, api.Unknown)
		w.need(1, 1, 2, api.Unknown)
		w.need(1, 1, 4, api.Unknown)
		w.end()
		w.need(1, 1, 1, api.False)
		w.need(1, 1, 2, api.True)
		w.need(1, 1, 4, api.False)
	})
}

// TestLongPaths: as many rows and as many predicates as a query that is read may have, and more.
func TestLongPaths(t *testing.T) {
	t.Parallel()
	within(t, func() {
		for _, q := range []string{"//a[" + strings.Repeat(".//", 20000) + "b]", "//a" + strings.Repeat("[b]", 20000), "//a[" + strings.Repeat("b and ", 10000) + "b]", strings.Repeat("node()/", 9000) + "*[b]", "//a[" + strings.Repeat("not(", 199) + "b" + strings.Repeat(")", 199) + "]", "//a[" + strings.Repeat("node()/", 9000) + "b]"} {
			w := newWriter(t, q)
			last := len(w.n.Preds) - 1 // a Some in each
			for range 50 {
				w.start("a")
				w.text("x")
			}
			w.need(0, 50, last, api.Unknown)
			w.start("b")
			deep := strings.Contains(q, ".//")
			isOne := deep || !strings.Contains(q, "[node()")
			if deep {
				w.need(0, 50, last, api.True)
			} else if isOne {
				w.need(50, 50, last, api.True)
				w.need(0, 49, last, api.Unknown)
			}
			w.need(51, 51, last, api.Unknown)
			for range 51 {
				w.end()
			}
			want := api.False
			if deep {
				want = api.True
			}
			w.need(1, 1, last, want)
		}
		dots := slices.Repeat([]api.Step{here()}, 1<<17)
		n := asking(t, there(append(dots, child("a"))...))
		w := &writer{t: t, h: started(t, n), n: n}
		w.start("a")
		w.need(0, 0, 0, api.True)
		w.need(1, 1, 0, api.Unknown)
		w.end()
		w.need(1, 1, 0, api.False)
	})
}

// TestGreatTexts: each character that may stand in a text is told from its neighbours.
func TestGreatTexts(t *testing.T) {
	t.Parallel()
	for _, r := range []rune{'\t', '\n', '\r', ' ', 'z', 'é', '\uD7FF', '\uE000', '\uFFFD', '\U00010000', '\U0010FFFF'} {
		s := string(r)
		n := asking(t, comparisons(there(here()), 3, s, s+s, s+"a")...)
		needTexts(t, n, []api.Event{
			{Kind: api.Open, Depth: 1, Name: "a"}, {Kind: api.Text, Number: 1, Depth: 2, Text: s}, {Kind: api.Open, Number: 2, Depth: 2, Name: "a"}, {Kind: api.Text, Number: 3, Depth: 3, Text: s + "a"},
			{Kind: api.Close, Number: 2, Depth: 2, Name: "a"}, {Kind: api.Close, Number: 0, Depth: 1, Name: "a"},
		}, &tally{})
	}
}

// inUse: how many bytes are in use.
func inUse() int {
	runtime.GC()
	var m runtime.MemStats
	runtime.ReadMemStats(&m)
	return int(m.HeapAlloc)
}

// TestRoom: DOC.md's P6: what is kept doesn't grow with the document, nor with its texts, and goes when elements are closed.
func TestRoom(t *testing.T) {
	w := newWriter(t, "//a[. = 'x'][starts-with(., 'aab')][contains(., 'aab')][ends-with(., 'aab')][string-length(.) > 1000][.//b[. = 'y']]")
	w.start("a")
	w.text("x")
	ahead := inUse()
	for i := range 30 {
		for range 1000 {
			w.start("b")
			w.text("x")
			w.end()
		}
		w.start("b")
		w.text(strings.Repeat(string(rune('a'+i%2)), 1<<20))
		w.end()
	}
	if more := inUse() - ahead; more > 1<<19 {
		t.Errorf("P6: %d bytes more are held", more)
	}
	for range 100000 {
		w.start("b")
	}
	deep := inUse() - ahead
	for range 100000 {
		w.end()
	}
	w.open = nil // this test's own
	if more := inUse() - ahead; more > deep/3 {
		t.Errorf("P6: of %d bytes for open elements %d are held when these are closed", deep, more)
	}
	runtime.KeepAlive(w)
}

// lender makes nets and events of texts whose bytes may be written over, and of lists that have room to spare.
type lender struct{ lent [][]byte }

func (l *lender) text(s string) string {
	b := append([]byte(s), "spare"...)
	l.lent = append(l.lent, b)
	return unsafe.String(unsafe.SliceData(b), len(s))
}

// spoil: writes over all texts that were lent. It answers whether one of them was changed ahead of it.
func (l *lender) spoil() bool {
	changed := false
	for _, b := range l.lent {
		changed = changed || !strings.HasSuffix(string(b), "spare")
		for i := range b {
			b[i] = 'z'
		}
	}
	l.lent = nil
	return changed
}

func (l *lender) numbers(list []int) []int {
	out := append(make([]int, 0, len(list)+2), list...)
	_ = append(out, 77, 77)
	return out
}

func (l *lender) net(n api.Net) api.Net {
	rows, preds := make([]api.Row, 0, len(n.Rows)+2), make([]api.Pred, 0, len(n.Preds)+2)
	for _, r := range n.Rows {
		r.Name, r.Preds = l.text(r.Name), l.numbers(r.Preds)
		rows = append(rows, r)
	}
	for _, x := range n.Preds {
		x.Attr, x.Text, x.Args = l.text(x.Attr), l.text(x.Text), l.numbers(x.Args)
		preds = append(preds, x)
	}
	_, _ = append(rows, api.Row{Name: "spare"}, api.Row{Preds: []int{7}}), append(preds, api.Pred{Text: "spare"}, api.Pred{Text: "spare"})
	return api.Net{Main: n.Main, Rows: rows, Preds: preds}
}

func (l *lender) event(e api.Event) api.Event {
	attrs := make([]api.Attr, 0, len(e.Attrs)+2)
	for _, a := range e.Attrs {
		attrs = append(attrs, api.Attr{Name: l.text(a.Name), Value: l.text(a.Value)})
	}
	_ = append(attrs, api.Attr{Name: "spare"}, api.Attr{Value: "spare"})
	e.Name, e.Text, e.Attrs = l.text(e.Name), l.text(e.Text), attrs
	return e
}

// whole: a copy of what stands at v, with each list's spare room; texts are copied.
func whole(v reflect.Value) reflect.Value {
	out := reflect.New(v.Type()).Elem()
	switch v.Kind() {
	case reflect.Struct:
		for i := range v.NumField() {
			out.Field(i).Set(whole(v.Field(i)))
		}
	case reflect.Slice:
		if v.Cap() > 0 {
			v = v.Slice(0, v.Cap())
		}
		for i := range v.Len() {
			out = reflect.Append(out, whole(v.Index(i)))
		}
	case reflect.String:
		out.SetString(strings.Clone(v.String()))
	default:
		out.Set(v)
	}
	return out
}

// overwrite: all lists, with their spare room, from within out.
func overwrite(v reflect.Value) {
	switch v.Kind() {
	case reflect.Struct:
		for i := range v.NumField() {
			overwrite(v.Field(i))
		}
	case reflect.Slice:
		if v.Cap() > 0 {
			v = v.Slice(0, v.Cap())
		}
		for i := range v.Len() {
			overwrite(v.Index(i))
			v.Index(i).SetZero()
		}
	}
}

// lend: gives a call something that is lent, and writes over it when the call has answered; it wasn't changed by the call.
func lend[T any](t *testing.T, l *lender, x T, call func(x T)) {
	t.Helper()
	given := whole(reflect.ValueOf(x)).Interface()
	call(x)
	if now := whole(reflect.ValueOf(x)).Interface(); !reflect.DeepEqual(now, given) {
		t.Fatalf("rule 5: %+v was changed to %+v", given, now)
	}
	overwrite(reflect.ValueOf(&x).Elem())
	if l.spoil() {
		t.Fatalf("rule 5: the spare room of %+v was changed", given)
	}
}

// TestHandedIn: rule 5: nets and events aren't changed, and may be written over when the call has answered.
func TestHandedIn(t *testing.T) {
	t.Parallel()
	for seed := range uint64(400) {
		m := newMaker(seed + 1<<24)
		n, events := netOf(t, m.path(3)), m.events(15, m.text)
		want := lettersBehind(t, n, events)
		l := &lender{}
		var h *hopes.Hopes
		lend(t, l, l.net(n), func(n api.Net) { h = started(t, n) })
		for i, e := range events {
			lend(t, l, l.event(e), func(e api.Event) {
				if got := h.Take(e); got != api.OK {
					t.Fatalf("P18.2: %+v behind lent events: %d", e, got)
				}
			})
			if got := lettersOf(h, len(n.Preds)); got != want[i+1] {
				t.Fatalf("rule 5: behind lent events of %s: %s, want %s", formOf(events[:i+1]), got, want[i+1])
			}
		}
	}
}

// TestNetStays: rule 5: a net that was given to several, and that is compiled anew, is the same.
func TestNetStays(t *testing.T) {
	for _, q := range queries() {
		n, again := netOf(t, query(t, q)), netOf(t, query(t, q))
		for range 3 {
			h := started(t, n)
			for _, e := range eventsOf(t, documents()[9]) {
				h.Take(e)
			}
		}
		if !reflect.DeepEqual(n, again) {
			t.Errorf("rule 5: the net of %s was changed", q)
		}
		if size, e := ask.Size(query(t, q)); e != api.OK || size != len(n.Rows)+len(n.Preds) {
			t.Errorf("P17.4: %s: %d, %d", q, size, e)
		}
	}
}

// TestAnyWay: rule 7: several goroutines at once, each with one of its own, disturb none.
func TestAnyWay(t *testing.T) {
	for _, d := range documents()[5:] {
		t.Run("", func(t *testing.T) {
			t.Parallel()
			for _, q := range queries() {
				needRun(t, netOf(t, query(t, q)), eventsOf(t, d), &tally{})
			}
		})
	}
}
