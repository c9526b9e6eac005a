package ways_test

import (
	"reflect"
	"runtime"
	"slices"
	"strings"
	"testing"
	"time"
	"unsafe"

	"gimlet/api"
	"gimlet/ways"
)

// What follows tries what is great, and whose memory it is.

// within: what is tried ends in a minute.
func within(t *testing.T, try func()) {
	t.Helper()
	done := make(chan struct{})
	go func() {
		defer close(done)
		try()
	}()
	select {
	case <-done:
	case <-time.After(time.Minute):
		t.Error("P1: it doesn't end in a minute")
	}
}

// writer makes calls one by one that must be taken, with nodes' numbers of its own.
type writer struct {
	t     *testing.T
	w     *ways.Ways
	nodes int
}

func newWriter(t *testing.T, q string) *writer {
	return &writer{t: t, w: started(t, netOf(t, query(t, q)))}
}

func (w *writer) enter(kind api.EventKind, name string) {
	w.t.Helper()
	if e := w.w.Enter(api.Event{Kind: kind, Number: w.nodes, Name: name}); e != api.OK {
		w.t.Fatalf("P19.2: node %d: %d", w.nodes, e)
	}
	w.nodes++
}

func (w *writer) set(depth, pred int, v api.Truth) {
	w.t.Helper()
	if e := w.w.Set(depth, pred, v); e != api.OK {
		w.t.Fatalf("P19.3: %d.%d=%s behind node %d: %d", depth, pred, letter(v), w.nodes, e)
	}
}

func (w *writer) leave() {
	w.t.Helper()
	if e := w.w.Leave(); e != api.OK {
		w.t.Fatalf("P19.4: behind node %d: %d", w.nodes, e)
	}
}

func (w *writer) counts(entries, formulas int) {
	w.t.Helper()
	if e, f := w.w.Entries(), w.w.Formulas(); e != entries || f != formulas {
		w.t.Errorf("P19.6: behind node %d: %d, %d, want %d, %d", w.nodes, e, f, entries, formulas)
	}
}

// news: so many verdicts, all of this value.
func (w *writer) news(many int, v api.Truth) {
	w.t.Helper()
	list := w.w.News()
	for i, x := range list {
		if x.Truth != v || i > 0 && list[i-1].Number >= x.Number {
			w.t.Fatalf("P19.5: behind node %d: %d%s at %d, want %s", w.nodes, x.Number, letter(x.Truth), i, letter(v))
		}
	}
	if len(list) != many {
		w.t.Fatalf("P19.5: behind node %d: %d verdicts, want %d", w.nodes, len(list), many)
	}
}

// TestDeep: as many open elements as a document that is read may have, with what is above them set at last and at first.
func TestDeep(t *testing.T) {
	t.Parallel()
	within(t, func() {
		const deep = api.MaxDepth
		w := newWriter(t, "//a[x]//a[y]")
		for range deep {
			w.enter(api.Open, "a")
			w.news(min(1, w.nodes-1), api.Unknown)
		}
		w.counts(1+4*deep-1, 3*deep-1)
		for depth := range deep {
			w.set(depth+1, 1, api.True)
		}
		w.news(0, api.Unknown)
		for depth := deep; depth > 2; depth-- {
			w.set(depth, 0, api.False)
			w.leave()
		}
		w.news(0, api.Unknown)
		w.set(2, 0, api.False)
		w.set(1, 0, api.True)
		w.news(deep-1, api.True)
		w.counts(3+1+2+1, 0)
	})
}

// TestDeepFalse: what is at each depth hangs on all above, which is set False from the top and from the bottom.
func TestDeepFalse(t *testing.T) {
	t.Parallel()
	within(t, func() {
		const deep = 50000
		for _, isDown := range []bool{true, false} {
			w := newWriter(t, "//a[x]/descendant-or-self::node()/a")
			for range deep {
				w.enter(api.Open, "a")
			}
			w.news(deep-1, api.Unknown)
			if isDown {
				for depth := 1; depth < deep; depth++ {
					w.set(depth, 0, api.False)
					w.news(1, api.False)
				}
				continue
			}
			for depth := deep; depth > 1; depth-- {
				w.set(depth, 0, api.False)
				w.news(0, api.False)
			}
			w.set(1, 0, api.False)
			w.news(deep-1, api.False)
			w.counts(1+deep, 0)
		}
	})
}

// TestManyWait: many nodes that were left wait at each depth, and go up together.
func TestManyWait(t *testing.T) {
	t.Parallel()
	within(t, func() {
		const deep, many = 5000, 40000
		w := newWriter(t, "//a[x]/*//*[y]//b/descendant-or-self::node()")
		w.enter(api.Open, "a")
		for range deep {
			w.enter(api.Open, "c")
			w.set(w.nodes, 1, truth(w.nodes > 3))
		}
		w.news(0, api.Unknown)
		for range many {
			w.enter(api.Open, "b")
			w.enter(api.Text, "")
			w.news(2, api.Unknown)
			w.set(deep+2, 0, api.False)
			w.set(deep+2, 1, api.False)
			w.leave()
		}
		for depth := deep + 1; depth > 1; depth-- {
			w.set(depth, 0, api.False)
			w.leave()
			w.news(0, api.Unknown)
		}
		w.set(1, 0, api.True)
		w.news(2*many, api.True)
	})
}

// TestManyKinds: nodes that were left hang on many different things.
func TestManyKinds(t *testing.T) {
	t.Parallel()
	within(t, func() {
		const high = 14
		w := newWriter(t, "//self::node()[x]/*/*/*/*/*/*/*/*/a//b")
		depth := 0
		var grow func(left int)
		grow = func(left int) {
			for _, name := range []string{"a", "c"} {
				w.enter(api.Open, name)
				depth++
				if left > 0 {
					grow(left - 1)
				} else {
					w.enter(api.Open, "b")
					w.set(depth+1, 0, api.False)
					w.leave()
				}
				w.set(depth, 0, api.False)
				w.leave()
				depth--
			}
		}
		for range 12 {
			w.enter(api.Open, "c")
			depth++
		}
		grow(high - 1)
		many := len(w.w.News())
		if many < 1<<(high-1) {
			t.Errorf("P19.5: only %d wait", many)
		}
		for depth > 0 {
			w.set(depth, 0, api.False)
			w.leave()
			depth--
		}
		left := len(w.w.News())
		w.set(0, 0, api.True)
		w.news(many-left, api.True)
	})
}

// TestManyRows: nodes that were left hang on the same open node by rows that are far apart, each on what is set at another depth.
func TestManyRows(t *testing.T) {
	t.Parallel()
	within(t, func() {
		const rows, deep = 400, 799
		w := newWriter(t, "descendant::a[x]"+strings.Repeat("/a", rows-1))
		for range deep {
			w.enter(api.Open, "a")
		}
		const wait = deep - rows + 1
		w.news(wait, api.Unknown)
		for depth := deep; depth > rows; depth-- {
			w.set(depth, 0, api.True)
			w.leave()
		}
		w.news(0, api.Unknown)
		for depth := 1; depth <= wait; depth++ {
			v := truth(depth%3 == 0)
			w.set(depth, 0, v)
			w.news(1, v)
		}
	})
}

// TestWide: many nodes right in one that wait, and then are known together.
func TestWide(t *testing.T) {
	t.Parallel()
	within(t, func() {
		const many = 300000
		for _, v := range []api.Truth{api.False, api.True} {
			w := newWriter(t, "//a[x]/*/text()")
			w.enter(api.Open, "a")
			for i := range many {
				w.enter(api.Open, "b")
				w.enter(api.Text, "")
				if i%2 == 0 {
					w.news(1, api.Unknown)
				}
				w.set(2, 0, api.False)
				w.leave()
				if i%2 == 1 {
					w.news(1, api.Unknown)
				}
			}
			w.counts(1+1+1+0, 1)
			w.set(1, 0, v)
			w.news(many, v)
			w.news(0, v)
		}
	})
}

// TestSeldomAsked: News is asked once, at the end.
func TestSeldomAsked(t *testing.T) {
	t.Parallel()
	within(t, func() {
		const many = 200000
		w := newWriter(t, "//a[x]//b[y]")
		for i := range many {
			w.enter(api.Open, "a")
			w.enter(api.Open, "b")
			w.set(2, 0, api.False)
			w.set(2, 1, api.True)
			w.leave()
			w.set(1, 1, api.False)
			w.set(1, 0, truth(i%2 == 0))
			w.leave()
		}
		w.news(many/2, api.True)
	})
}

// TestLongPaths: as many rows and as many predicates as a query that is read may have.
func TestLongPaths(t *testing.T) {
	t.Parallel()
	within(t, func() {
		const many = 20000
		w := newWriter(t, "a"+strings.Repeat("[x]", many))
		for range 50 {
			w.enter(api.Open, "a")
			for pred := range many - 1 {
				w.set(w.nodes, pred, api.True)
			}
		}
		w.news(1, api.Unknown)
		w.set(1, many-1, api.True)
		w.news(1, api.True)
		w = newWriter(t, "a[x]"+strings.Repeat("/*", many))
		for range 1000 {
			w.enter(api.Open, "a")
		}
		w.counts(1000, 1000)
		w.set(1, 0, api.True)
		w.counts(1000, 0)
		w = newWriter(t, "a[x]"+strings.Repeat("/.", many))
		w.enter(api.Open, "a")
		w.news(1, api.Unknown)
		w.set(1, 0, api.True)
		w.news(1, api.True)
		w.counts(many+1, 0)
		w = newWriter(t, "//a[x]"+strings.Repeat("/descendant-or-self::*", 2000))
		for range 50 {
			w.enter(api.Open, "a")
		}
		w.news(50, api.Unknown)
		for depth := 50; depth > 1; depth-- {
			w.set(depth, 0, api.False)
			w.leave()
		}
		w.set(1, 0, api.True)
		w.news(50, api.True)
	})
}

// inUse: how many bytes are in use.
func inUse() int {
	runtime.GC()
	var m runtime.MemStats
	runtime.ReadMemStats(&m)
	return int(m.HeapAlloc)
}

// TestRoom: DOC.md's P6, and the chapter's 'What follows': what is kept doesn't grow with the nodes that were left and don't wait, nor with how deep those that wait were; and it goes when elements are left.
func TestRoom(t *testing.T) {
	w := newWriter(t, "//a[x]//b[y]")
	w.enter(api.Open, "a")
	wander := func(many int, name string) {
		for range many {
			w.enter(api.Open, "c")
			w.enter(api.Open, name)
			for pred := range 2 {
				w.set(3, pred, api.False)
				w.set(2, pred, api.False)
			}
			w.enter(api.Text, "")
			w.leave()
			w.leave()
			w.news(0, api.False)
		}
	}
	wander(10, "a")
	ahead := inUse()
	wander(100000, "a")
	if more := inUse() - ahead; more > 1<<16 {
		t.Errorf("P6: %d bytes more are held", more)
	}
	w.enter(api.Open, "b") // it waits, and what is above it is left
	w.set(2, 0, api.False)
	w.set(2, 1, api.True)
	w.news(1, api.Unknown)
	w.leave()
	const deep = 50000
	for range deep {
		w.enter(api.Open, "a")
	}
	w.enter(api.Open, "b")
	w.set(deep+2, 0, api.False)
	w.set(deep+2, 1, api.True)
	w.news(1, api.Unknown)
	w.leave()
	most := inUse() - ahead
	for depth := deep + 1; depth > 1; depth-- {
		w.set(depth, 0, api.False)
		w.set(depth, 1, api.False)
		w.leave()
	}
	w.news(0, api.Unknown)
	if more := inUse() - ahead; more > most/6 {
		t.Errorf("P6: of %d bytes for open elements %d are held when these are left", most, more)
	}
	w.set(1, 0, api.True)
	w.news(2, api.True)
	runtime.KeepAlive(w)
}

// lender makes nets and events of texts whose bytes may be written over, and of lists that have room to spare.
type lender struct{ lent [][]byte }

func (l *lender) text(s string) string {
	b := append([]byte(s), "spare"...)
	l.lent = append(l.lent, b)
	return unsafe.String(unsafe.SliceData(b), len(s))
}

// spoil: writes over all texts that were lent. It answers whether one of them was changed ahead of it.
func (l *lender) spoil() bool {
	changed := false
	for _, b := range l.lent {
		changed = changed || !strings.HasSuffix(string(b), "spare")
		for i := range b {
			b[i] = 'z'
		}
	}
	l.lent = nil
	return changed
}

func (l *lender) numbers(list []int) []int {
	out := append(make([]int, 0, len(list)+2), list...)
	_ = append(out, 77, 77)
	return out
}

func (l *lender) net(n api.Net) api.Net {
	rows, preds := make([]api.Row, 0, len(n.Rows)+2), make([]api.Pred, 0, len(n.Preds)+2)
	for _, r := range n.Rows {
		r.Name, r.Preds = l.text(r.Name), l.numbers(r.Preds)
		rows = append(rows, r)
	}
	for _, x := range n.Preds {
		x.Attr, x.Text, x.Args = l.text(x.Attr), l.text(x.Text), l.numbers(x.Args)
		preds = append(preds, x)
	}
	_, _ = append(rows, api.Row{Name: "spare"}, api.Row{Preds: []int{7}}), append(preds, api.Pred{Text: "spare"}, api.Pred{Text: "spare"})
	return api.Net{Main: n.Main, Rows: rows, Preds: preds}
}

func (l *lender) event(e api.Event) api.Event {
	attrs := make([]api.Attr, 0, len(e.Attrs)+2)
	for _, a := range e.Attrs {
		attrs = append(attrs, api.Attr{Name: l.text(a.Name), Value: l.text(a.Value)})
	}
	_ = append(attrs, api.Attr{Name: "spare"}, api.Attr{Value: "spare"})
	e.Name, e.Text, e.Attrs = l.text(e.Name), l.text(e.Text), attrs
	return e
}

// whole: a copy of what stands at v, with each list's spare room; texts are copied.
func whole(v reflect.Value) reflect.Value {
	out := reflect.New(v.Type()).Elem()
	switch v.Kind() {
	case reflect.Struct:
		for i := range v.NumField() {
			out.Field(i).Set(whole(v.Field(i)))
		}
	case reflect.Slice:
		if v.Cap() > 0 {
			v = v.Slice(0, v.Cap())
		}
		for i := range v.Len() {
			out = reflect.Append(out, whole(v.Index(i)))
		}
	case reflect.String:
		out.SetString(strings.Clone(v.String()))
	default:
		out.Set(v)
	}
	return out
}

// overwrite: all lists, with their spare room, from within out.
func overwrite(v reflect.Value) {
	switch v.Kind() {
	case reflect.Struct:
		for i := range v.NumField() {
			overwrite(v.Field(i))
		}
	case reflect.Slice:
		if v.Cap() > 0 {
			v = v.Slice(0, v.Cap())
		}
		for i := range v.Len() {
			overwrite(v.Index(i))
			v.Index(i).SetZero()
		}
	}
}

// lend: gives a call something that is lent, and writes over it when the call has answered; it wasn't changed by the call.
func lend[T any](t *testing.T, l *lender, x T, call func(x T)) {
	t.Helper()
	given := whole(reflect.ValueOf(x)).Interface()
	call(x)
	if now := whole(reflect.ValueOf(x)).Interface(); !reflect.DeepEqual(now, given) {
		t.Fatalf("rule 5: %+v was changed to %+v", given, now)
	}
	overwrite(reflect.ValueOf(&x).Elem())
	if l.spoil() {
		t.Fatalf("rule 5: the spare room of %+v was changed", given)
	}
}

// TestWrittenOver: P19.7: nets and events aren't changed, and may be written over when the call has answered; so may what News answers.
func TestWrittenOver(t *testing.T) {
	t.Parallel()
	for seed := range uint64(1500) {
		m := newMaker(seed + 1<<24)
		l, n := &lender{}, netOf(t, m.path(4))
		x := &trial{t: t, p: newPlain(n)}
		lend(t, l, l.net(n), func(n api.Net) { x.w = started(t, n) })
		for range 40 {
			kind, name := api.Open, pick(m, someNames())
			if m.r.IntN(2) == 0 {
				kind, name = api.Text, ""
			}
			lend(t, l, l.event(x.next(kind, name)), func(e api.Event) {
				e.Name = strings.Clone(e.Name) // the test keeps it
				got, want := x.w.Enter(e), x.p.enter(e)
				if got != want {
					t.Fatalf("P19.2: %d, want %d", got, want)
				}
			})
			m.call(x, chance{lean: 5})
			got, want := x.w.News(), x.p.news()
			if !slices.Equal(got, want) {
				t.Fatalf("P19.7: %v: %s, want %s", shownNet(n), said(got), said(want))
			}
			overwrite(reflect.ValueOf(&got).Elem())
		}
	}
}

// TestNetStays: rule 5: a net that was given to several is the same, and they share nothing.
func TestNetStays(t *testing.T) {
	for i, q := range queries() {
		n, again := netOf(t, query(t, q)), netOf(t, query(t, q))
		for k := range 3 {
			newMaker(uint64(i)).walk(newTrial(t, n), eventsOf(t, documents()[k+6]), chance{news: 4, lean: 4})
		}
		if !reflect.DeepEqual(n, again) {
			t.Errorf("rule 5: the net of %s was changed", q)
		}
	}
}

// TestAnyWay: rule 7: several goroutines at once, each with one of its own, disturb none.
func TestAnyWay(t *testing.T) {
	for _, d := range documents()[6:] {
		t.Run("", func(t *testing.T) {
			t.Parallel()
			for i, q := range queries() {
				newMaker(uint64(i)).walk(newTrial(t, netOf(t, query(t, q))), eventsOf(t, d), chance{news: 3, lean: 5})
			}
		})
	}
}
