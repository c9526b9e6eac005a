package net_test

import (
	"math"
	"reflect"
	"slices"
	"strings"
	"testing"
	"time"
	"unsafe"

	"gimlet/api"
	"gimlet/ask"
	"gimlet/net"
)

// What follows tries what is great, numbers that lead nowhere or round, and whose memory it is.

// within: what is tried ends in a minute.
func within(t *testing.T, try func()) {
	t.Helper()
	done := make(chan struct{})
	go func() {
		defer close(done)
		try()
	}()
	select {
	case <-done:
	case <-time.After(time.Minute):
		t.Fatal("P1: it doesn't end in a minute")
	}
}

// needGreat: P17.1 to P17.4, of a great query, by the plain reading; the last line is that.
func needGreat(t *testing.T, p api.Path, rows, preds int, last string) {
	t.Helper()
	n, e := net.Compile(p)
	if e != api.OK || len(n.Rows) != rows || len(n.Preds) != preds || !reflect.DeepEqual(tidy(n), tidy(made(p))) {
		t.Errorf("P17.1: Compile of a great path: %d rows, %d preds, %d, want %d, %d", len(n.Rows), len(n.Preds), e, rows, preds)
	}
	size, e := ask.Size(p)
	if e != api.OK || size != rows+preds {
		t.Errorf("P17.4: Size %d, %d, want %d", size, e, rows+preds)
	}
	back, e := net.Path(n)
	if e != api.OK || !ask.Same(back, p) || net.Check(n) != api.OK {
		t.Errorf("P17.2: Path of a great net: %d, Check %d", e, net.Check(n))
	}
	s, e := net.Print(n)
	if e != api.OK || strings.Count(s, "\n") != 1+rows+preds || !strings.HasSuffix(s, "\n"+last+"\n") {
		t.Errorf("P17.3: Print of a great net: %d lines, %d; the end %q, want %q", strings.Count(s, "\n"), e, s[max(0, len(s)-80):], last)
	}
}

// needTooDeep: what would be the net of a path that is nested too deep is none, as the path is none.
func needTooDeep(t *testing.T, p api.Path) {
	t.Helper()
	n, e := net.Compile(p)
	if e != api.ErrShape || n.Main != 0 || len(n.Rows) > 0 || len(n.Preds) > 0 {
		t.Errorf("P17.1: a path nested too deep: %d", e)
	}
	q, e := net.Path(made(p))
	s, f := net.Print(made(p))
	if e != api.ErrShape || f != api.ErrShape || net.Check(made(p)) != api.ErrShape || len(q.Steps) > 0 || s != "" {
		t.Errorf("P17.2: a net nested too deep: Path %d, Print %d, Check %d", e, f, net.Check(made(p)))
	}
}

// TestDeepest: expressions nested as deep as they may be, and one deeper.
func TestDeepest(t *testing.T) {
	const most = api.MaxNested
	b := there(child("b"))
	inStep := func(x api.Expr) api.Expr { return there(child("b", x)) }
	inCall := func(x api.Expr) api.Expr { return withNumber(there(child("b", x)), api.Longer, 7) }
	inOr := func(x api.Expr) api.Expr { return oneOf(b, allOf(b, x)) } // one bracket for both
	for _, r := range []struct {
		around            func(api.Expr) api.Expr
		most, rows, preds int // the most of it that there may be
		last              string
	}{
		{no, most - 1, 2, 200, "pred 199: some 1 1"},
		{inStep, most - 1, 201, 200, "pred 199: some 200 1"},
		{inCall, most/2 - 1, 101, 100, "pred 99: some 100 1"},
		{inOr, most, 402, 801, "pred 800: some 401 1"},
	} {
		needGreat(t, steps(child("a", wrapped(r.most, b, r.around))), r.rows, r.preds, r.last)
		needTooDeep(t, steps(child("a", wrapped(r.most+1, b, r.around))))
		needTooDeep(t, steps(child("a", b), child("c", b, wrapped(1000, b, r.around))))
	}
	needGreat(t, steps(child("a", no(wrapped(most/2-1, b, inCall)))), 101, 101, "pred 100: some 100 1")
	needTooDeep(t, steps(child("a", no(no(wrapped(most/2-1, b, inCall))))))
}

// TestLargest: a query of as many bytes as it may have, and one more; the greatest numbers; long lists.
func TestLargest(t *testing.T) {
	within(t, func() {
		const many = api.MaxQuery / 2
		needGreat(t, query(t, strings.Repeat("a/", many-1)+"aa"), many, 0, "row 32767: child::aa")
		needGreat(t, steps(slices.Repeat([]api.Step{child("a")}, api.MaxQuery+1)...), api.MaxQuery+1, 0, "row 65536: child::a")
		needGreat(t, query(t, "a"+strings.Repeat("[b]", 20000)), 20001, 20000, "pred 19999: some 20000 1")
		needGreat(t, query(t, "a["+strings.Repeat("b or ", 13000)+"b]"), 13002, 13002, "pred 13001: some 13001 1")
		needGreat(t, query(t, strings.Repeat("a[not(b)]/", 6000)+"c"), 12001, 12000, "pred 11999: some 12000 1")
		needGreat(t, query(t, "a[b='"+strings.Repeat("é", 30000)+"']"), 2, 1, `pred 0: some 1 1 = "`+strings.Repeat("é", 30000)+`"`)
		needGreat(t, query(t, "a["+strings.Repeat("b/", 30000)+"@c]"), 30001, 1, "pred 0: some 1 30000 @c")
		inside := strings.Repeat("a[b and ", 100) + "c" + strings.Repeat("]", 100)
		needGreat(t, query(t, strings.Repeat(inside+"/", 65)+"d"), 65*(2*100+1)+1, 65*300, "pred 19499: some 13065 1")
		for _, number := range []int{api.MaxNumber, 0} {
			for c := api.LengthIs; c <= api.Shorter; c++ {
				n := needNet(t, steps(child("a", withNumber(there(here()), c, number))))
				n.Preds[0].Number = api.MaxNumber + 1
				if judge(t, n) {
					t.Error("P17.2: a number too great")
				}
				n.Preds[0].Number = -1
				if judge(t, n) {
					t.Error("P17.2: a number below 0")
				}
			}
		}
	})
}

// needNoNet: all calls say so, soon.
func needNoNet(t *testing.T, what string, n api.Net) {
	t.Helper()
	within(t, func() {
		p, e := net.Path(n)
		s, f := net.Print(n)
		if net.Check(n) != api.ErrShape || e != api.ErrShape || f != api.ErrShape || len(p.Steps) > 0 || s != "" {
			t.Errorf("P17.2: %s: Check %d, Path %d, Print %d, want ErrShape", what, net.Check(n), e, f)
		}
	})
}

// TestRound: numbers that lead to themselves, round in a circle, to what belongs to another, and nowhere.
func TestRound(t *testing.T) {
	one := api.Row{Name: "a", Preds: []int{0}}
	last := api.Row{Name: "b"}
	some := func(first, count int) api.Pred { return api.Pred{Op: api.Some, First: first, Count: count} }
	joined := func(op api.Op, args ...int) api.Pred { return api.Pred{Op: op, Args: args} }
	net1 := func(preds ...api.Pred) api.Net {
		return api.Net{Main: 1, Rows: []api.Row{one, last}, Preds: preds}
	}
	for what, n := range map[string]api.Net{
		"a not of itself":                  net1(joined(api.Not, 0)),
		"a not of itself ahead of a some":  net1(joined(api.Not, 0), some(1, 1)),
		"two nots of each other":           net1(joined(api.Not, 1), joined(api.Not, 0)),
		"three round":                      net1(joined(api.Not, 1), joined(api.Not, 2), joined(api.Not, 0)),
		"an and of itself twice":           net1(joined(api.And, 0, 0), some(1, 1)),
		"an and of one twice":              net1(joined(api.And, 1, 1), some(1, 1)),
		"an or of all":                     net1(joined(api.Or, 0, 1, 2), some(1, 1), some(1, 1)),
		"two somes of the same row":        net1(joined(api.And, 1, 2), some(1, 1), some(1, 1)),
		"a some of its own row":            {Main: 1, Rows: []api.Row{one}, Preds: []api.Pred{some(0, 1)}},
		"a some of the query's own path":   net1(some(0, 1)),
		"a some of all rows":               net1(some(0, 2)),
		"a some of no rows":                {Main: 1, Rows: []api.Row{one}, Preds: []api.Pred{some(1, 0)}},
		"a some of too many rows":          net1(some(1, 2)),
		"a some of rows behind":            net1(some(2, 1)),
		"a some within its own path":       {Main: 1, Rows: []api.Row{one, {Name: "b", Preds: []int{0}}}, Preds: []api.Pred{some(1, 1)}},
		"two somes within each other":      {Main: 1, Rows: []api.Row{{Name: "x"}, {Name: "a", Preds: []int{0}}, {Name: "b", Preds: []int{1}}}, Preds: []api.Pred{some(2, 1), some(1, 1)}},
		"a pred that belongs to nothing":   {Main: 1, Rows: []api.Row{{Name: "a"}, last}, Preds: []api.Pred{some(1, 1)}},
		"a row that belongs to nothing":    {Main: 1, Rows: []api.Row{{Name: "a"}, last}},
		"a pred that isn't there":          {Main: 1, Rows: []api.Row{one}},
		"a pred of two rows":               {Main: 2, Rows: []api.Row{one, one, last}, Preds: []api.Pred{some(2, 1)}},
		"a pred of a row and of a pred":    {Main: 1, Rows: []api.Row{{Name: "a", Preds: []int{0, 1}}, last}, Preds: []api.Pred{joined(api.Not, 1), some(1, 1)}},
		"no query's own path":              {Main: 0, Rows: []api.Row{one, last}, Preds: []api.Pred{some(1, 1)}},
		"more of its own path than rows":   {Main: 3, Rows: []api.Row{one, last}, Preds: []api.Pred{some(1, 1)}},
		"all rows the query's own path":    {Main: 2, Rows: []api.Row{one, last}, Preds: []api.Pred{some(1, 1)}},
		"the last first":                   {Main: 1, Rows: []api.Row{{Name: "a", Preds: []int{1, 0}}, last, last}, Preds: []api.Pred{some(1, 1), some(2, 1)}},
		"the last row first":               {Main: 1, Rows: []api.Row{{Name: "a", Preds: []int{0, 1}}, last, last}, Preds: []api.Pred{some(2, 1), some(1, 1)}},
		"a part numbered ahead of its not": {Main: 1, Rows: []api.Row{{Name: "a", Preds: []int{1}}, last}, Preds: []api.Pred{some(1, 1), joined(api.Not, 0)}},
	} {
		if judge(t, n) {
			t.Errorf("P17.2: %s is a net by the plain reading", what)
		}
		needNoNet(t, what, n)
	}
	if !judge(t, net1(some(1, 1))) {
		t.Error("P17.2: the net of a[b] is none")
	}
}

// TestGreatNumbers: in the place of each number of rows and preds, alone and in pairs.
func TestGreatNumbers(t *testing.T) {
	great := []int{math.MaxInt, math.MaxInt - 1, math.MinInt, math.MinInt + 1, math.MaxInt32, math.MinInt32, math.MaxInt32 + 1, 1 << 32, 1 << 62, -1 << 62, -1}
	for _, q := range []string{"a", "a[b]", "a[b][not(c)]", "a[b and c/d]", "a[b[c]]/d"} {
		n := made(query(t, q))
		places := numbersOf(&n)
		for i, place := range places {
			old := *place
			for _, number := range great {
				*place = number
				needNoNet(t, q, n)
				for _, other := range places[:i] {
					was := *other
					for _, number := range great {
						*other = number
						if net.Check(n) != api.ErrShape {
							t.Errorf("P17.2: %s: %+v: Check %d", q, n, net.Check(n))
						}
					}
					*other = was
				}
			}
			*place = old
		}
		if !judge(t, n) {
			t.Errorf("P17.2: %s: %+v is no net", q, n)
		}
	}
}

// TestLongNone: what is no net is told soon, however long its chains are.
func TestLongNone(t *testing.T) {
	const long = 1 << 19
	a := api.Row{Name: "a", Preds: []int{0}}
	chain := make([]api.Pred, long)
	for i := range chain {
		chain[i] = api.Pred{Op: api.Not, Args: []int{i + 1}}
	}
	needNoNet(t, "a chain that leads nowhere", api.Net{Main: 1, Rows: []api.Row{a}, Preds: chain})
	chain[long-1] = api.Pred{Op: api.Some, First: 1, Count: 1}
	needNoNet(t, "a long chain of nots", api.Net{Main: 1, Rows: []api.Row{a, {Name: "b"}}, Preds: chain})
	rows := []api.Row{a}
	for i := range chain {
		chain[i] = api.Pred{Op: api.Some, First: i + 1, Count: 1}
		rows = append(rows, api.Row{Name: "b", Preds: []int{i + 1}})
	}
	rows[long].Preds = nil
	needNoNet(t, "a long chain of paths within paths", api.Net{Main: 1, Rows: rows, Preds: chain})
	rows[long].Preds = []int{0}
	needNoNet(t, "a long ring of paths within paths", api.Net{Main: 1, Rows: rows, Preds: chain})
	// Each part of each belongs to it twice, so that there would be no end of ways through it.
	for i := range chain {
		chain[i] = api.Pred{Op: api.And, Args: []int{i + 1, i + 1}}
	}
	chain[long-1] = api.Pred{Op: api.Some, First: 1, Count: 1}
	needNoNet(t, "doubled parts", api.Net{Main: 1, Rows: []api.Row{a, {Name: "b"}}, Preds: chain})
	doubled := api.Net{Main: 1, Rows: []api.Row{a}}
	for i := range 150 {
		doubled.Preds = append(doubled.Preds, api.Pred{Op: api.Some, First: i + 1, Count: 1})
		doubled.Rows = append(doubled.Rows, api.Row{Name: "b", Preds: []int{i + 1, i + 1}})
	}
	doubled.Rows[150].Preds = nil
	needNoNet(t, "doubled predicates", doubled)
	all := make([]int, long)
	for i := range all {
		all[i] = i
	}
	for i := range chain {
		chain[i] = api.Pred{Op: api.Or, Args: all}
	}
	needNoNet(t, "all parts in each", api.Net{Main: 1, Rows: []api.Row{{Name: "a", Preds: all}}, Preds: chain})
	for i := range chain {
		chain[i] = api.Pred{Op: api.Some, First: 1, Count: long}
	}
	rows = append([]api.Row{{Name: "a", Preds: all}}, slices.Repeat([]api.Row{{Name: "b"}}, long)...)
	needNoNet(t, "all rows in each", api.Net{Main: 1, Rows: rows, Preds: chain})
}

// lent: a text whose bytes may be written over.
func lent(s string) (string, []byte) {
	b := append([]byte(s), "spare"...)
	return unsafe.String(unsafe.SliceData(b), len(s)), b
}

// lender makes paths and nets of lent texts, and of lists that have room to spare.
type lender struct{ lent [][]byte }

func (l *lender) text(s string) string {
	out, b := lent(s)
	l.lent = append(l.lent, b)
	return out
}

// spoil: writes over all texts that were lent. It answers whether one of them was changed ahead of it.
func (l *lender) spoil() bool {
	changed := false
	for _, b := range l.lent {
		changed = changed || !strings.HasSuffix(string(b), "spare")
		for i := range b {
			b[i] = 'z'
		}
	}
	return changed
}

func (l *lender) path(p api.Path) api.Path {
	list := make([]api.Step, 0, len(p.Steps)+2)
	for _, s := range p.Steps {
		s.Name, s.Where = l.text(s.Name), l.exprs(s.Where)
		list = append(list, s)
	}
	_ = append(list, child("spare"), child("spare"))
	return api.Path{Steps: list}
}

func (l *lender) exprs(exprs []api.Expr) []api.Expr {
	list := make([]api.Expr, 0, len(exprs)+2)
	for _, x := range exprs {
		x.Attr, x.Text, x.Path, x.Args = l.text(x.Attr), l.text(x.Text), l.path(x.Path), l.exprs(x.Args)
		list = append(list, x)
	}
	_ = append(list, there(child("spare")), there(child("spare")))
	return list
}

func (l *lender) numbers(list []int) []int {
	out := append(make([]int, 0, len(list)+2), list...)
	_ = append(out, 77, 77)
	return out
}

func (l *lender) net(n api.Net) api.Net {
	rows, preds := make([]api.Row, 0, len(n.Rows)+2), make([]api.Pred, 0, len(n.Preds)+2)
	for _, r := range n.Rows {
		r.Name, r.Preds = l.text(r.Name), l.numbers(r.Preds)
		rows = append(rows, r)
	}
	for _, x := range n.Preds {
		x.Attr, x.Text, x.Args = l.text(x.Attr), l.text(x.Text), l.numbers(x.Args)
		preds = append(preds, x)
	}
	_, _ = append(rows, child6(), child6()), append(preds, api.Pred{Text: "spare"}, api.Pred{Text: "spare"})
	return api.Net{Main: n.Main, Rows: rows, Preds: preds}
}

// whole: a copy of what stands at v, with each list's spare room; texts are copied.
func whole(v reflect.Value) reflect.Value {
	out := reflect.New(v.Type()).Elem()
	switch v.Kind() {
	case reflect.Struct:
		for i := range v.NumField() {
			out.Field(i).Set(whole(v.Field(i)))
		}
	case reflect.Slice:
		if v.Cap() > 0 {
			v = v.Slice(0, v.Cap())
		}
		for i := range v.Len() {
			out = reflect.Append(out, whole(v.Index(i)))
		}
	case reflect.String:
		out.SetString(strings.Clone(v.String()))
	default:
		out.Set(v)
	}
	return out
}

// overwrite: all lists, with their spare room, from within out.
func overwrite(v reflect.Value) {
	switch v.Kind() {
	case reflect.Struct:
		for i := range v.NumField() {
			overwrite(v.Field(i))
		}
	case reflect.Slice:
		if v.Cap() > 0 {
			v = v.Slice(0, v.Cap())
		}
		for i := range v.Len() {
			overwrite(v.Index(i))
			v.Index(i).SetZero()
		}
	}
}

// needOwnRoom: no two lists of an answer share memory, nor spare room: what is put behind one is seen in no other.
func needOwnRoom[T any](t *testing.T, answer T) {
	t.Helper()
	v := reflect.ValueOf(&answer).Elem()
	type span struct{ from, to uintptr }
	var spans []span
	var walk func(v reflect.Value)
	walk = func(v reflect.Value) {
		switch v.Kind() {
		case reflect.Struct:
			for i := range v.NumField() {
				walk(v.Field(i))
			}
		case reflect.Slice:
			if v.Cap() > 0 {
				from := v.Pointer()
				spans = append(spans, span{from, from + uintptr(v.Cap())*v.Type().Elem().Size()})
			}
			for i := range v.Len() {
				walk(v.Index(i))
			}
		}
	}
	walk(v)
	slices.SortFunc(spans, func(a, b span) int { return int(a.from) - int(b.from) })
	for i := range max(len(spans)-1, 0) {
		if spans[i].to > spans[i+1].from {
			t.Fatalf("rule 5: lists of %+v share memory", answer)
		}
	}
}

// manyPaths: of all kinds.
func manyPaths(t *testing.T) []api.Path {
	var list []api.Path
	for _, q := range queries() {
		list = append(list, query(t, q))
	}
	m := newMaker(99)
	for range 300 {
		list = append(list, m.path(4))
	}
	return list
}

// TestHandedIn: P17.5: what is handed in isn't changed, and may be written over when the call has answered.
func TestHandedIn(t *testing.T) {
	for _, plain := range manyPaths(t) {
		l := &lender{}
		p := l.path(plain)
		given := whole(reflect.ValueOf(p)).Interface()
		n, e := net.Compile(p)
		if e != api.OK || !reflect.DeepEqual(whole(reflect.ValueOf(p)).Interface(), given) {
			t.Fatalf("P17.5: Compile changed its path %+v to %+v, %d", given, p, e)
		}
		overwrite(reflect.ValueOf(&p).Elem())
		if l.spoil() || !reflect.DeepEqual(tidy(n), tidy(made(plain))) {
			t.Fatalf("P17.5: what Compile answered of %+v hangs on what was handed in: %+v", plain, n)
		}
		l = &lender{}
		m := l.net(n)
		givenNet := whole(reflect.ValueOf(m)).Interface()
		back, e := net.Path(m)
		s, f := net.Print(m)
		if e != api.OK || f != api.OK || net.Check(m) != api.OK || !reflect.DeepEqual(whole(reflect.ValueOf(m)).Interface(), givenNet) {
			t.Fatalf("P17.5: the net %+v was changed to %+v, %d, %d", givenNet, m, e, f)
		}
		overwrite(reflect.ValueOf(&m).Elem())
		if l.spoil() || !ask.Same(back, plain) || s != lines(n) {
			t.Fatalf("P17.5: what Path or Print answered of %+v hangs on what was handed in: %+v, %q", n, back, s)
		}
	}
}

// TestAnswers: P17.5: what was answered may be written over, its spare room too; nothing is kept from call to call.
func TestAnswers(t *testing.T) {
	for _, p := range manyPaths(t) {
		want := made(p)
		one, _ := net.Compile(p)
		two, _ := net.Compile(p)
		needOwnRoom(t, one)
		overwrite(reflect.ValueOf(&one).Elem())
		three, _ := net.Compile(p)
		if !reflect.DeepEqual(tidy(two), tidy(want)) || !reflect.DeepEqual(tidy(three), tidy(want)) {
			t.Fatalf("P17.5: Compile of %+v: %+v, then %+v, want %+v", p, two, three, want)
		}
		first, _ := net.Path(want)
		second, _ := net.Path(want)
		needOwnRoom(t, first)
		overwrite(reflect.ValueOf(&first).Elem())
		third, _ := net.Path(want)
		if !ask.Same(second, p) || !ask.Same(third, p) || !reflect.DeepEqual(want, made(p)) {
			t.Fatalf("P17.5: Path of %+v: %+v, then %+v", want, second, third)
		}
		// What has failed leaves nothing behind, either.
		net.Compile(api.Path{})
		net.Path(api.Net{Main: 1})
		if four, e := net.Compile(p); e != api.OK || !reflect.DeepEqual(tidy(four), tidy(want)) {
			t.Fatalf("P17.5: Compile of %+v behind failed calls: %+v, %d", p, four, e)
		}
	}
}

// TestAnyWay: P17.5: calls of several goroutines at once disturb none.
func TestAnyWay(t *testing.T) {
	for _, p := range manyPaths(t)[:40] {
		t.Run("", func(t *testing.T) {
			t.Parallel()
			for range 50 {
				needNet(t, p)
			}
		})
	}
}
