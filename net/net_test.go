package net_test

import (
	"reflect"
	"strings"
	"testing"

	"gimlet/api"
	"gimlet/ask"
	"gimlet/net"
)

// judge: P17.2, P17.3 of any net, by the plain reading. It answers whether it is one that Compile answers.
func judge(t testing.TB, n api.Net) bool {
	t.Helper()
	before := tidy(n)
	is := isNet(n)
	check, want := net.Check(n), api.ErrShape
	p, e := net.Path(n)
	s, f := net.Print(n)
	if is {
		want = api.OK
	}
	if check != want || e != want || f != want {
		t.Errorf("P17.2: of %+v: Check %d, Path %d, Print %d, want %d", n, check, e, f, want)
	}
	if !reflect.DeepEqual(tidy(n), before) {
		t.Errorf("rule 5: %+v was changed to %+v", before, n)
	}
	switch {
	case !is && (len(p.Steps) > 0 || s != ""):
		t.Errorf("rule 2: of %+v: beside an error %v, %q", n, p, s)
	case is && !ask.Same(p, unmade(n)):
		t.Errorf("P17.2: Path of %+v: %+v, want %+v", n, p, unmade(n))
	case is && s != lines(n):
		t.Errorf("P17.3: Print of %+v:\n%swant\n%s", n, s, lines(n))
	}
	return is
}

// needNet: P17.1, P17.2, P17.4 of a query's path.
func needNet(t testing.TB, p api.Path) api.Net {
	t.Helper()
	n, e := net.Compile(p)
	if e != api.OK || !reflect.DeepEqual(tidy(n), tidy(made(p))) {
		t.Fatalf("P17.1: Compile(%+v) = %+v, %d, want %+v", p, n, e, made(p))
	}
	back, e := net.Path(n)
	if e != api.OK || !ask.Same(back, p) {
		t.Fatalf("P17.4: Path of the net of %+v: %+v, %d", p, back, e)
	}
	if size, e := ask.Size(p); e != api.OK || len(n.Rows)+len(n.Preds) != size {
		t.Fatalf("P17.4: %+v: %d rows, %d preds, its size is %d", p, len(n.Rows), len(n.Preds), size)
	}
	needOwners(t, n)
	if !judge(t, n) {
		t.Fatalf("P17.2: the net of %+v is none by the plain reading", p)
	}
	return n
}

// needOwners: P17.4: what each row and each pred belongs to.
func needOwners(t testing.TB, n api.Net) {
	t.Helper()
	rowsOf, predsOf := make([]int, len(n.Rows)), make([]int, len(n.Preds))
	within := make([]int, len(n.Rows)) // of each row the pred that it belongs to, or -1
	for i := range n.Main {
		rowsOf[i]++
		within[i] = -1
	}
	for i, x := range n.Preds {
		for row := x.First; row < x.First+x.Count; row++ {
			rowsOf[row]++
			within[row] = i
		}
		for _, k := range x.Args {
			predsOf[k]++
			if k <= i {
				t.Errorf("P17.4: %+v: pred %d belongs to pred %d", n, k, i)
			}
		}
	}
	for i, r := range n.Rows {
		for _, k := range r.Preds {
			predsOf[k]++
			if k <= within[i] {
				t.Errorf("P17.4: %+v: pred %d is within pred %d", n, k, within[i])
			}
		}
	}
	for _, many := range append(rowsOf, predsOf...) {
		if many != 1 {
			t.Fatalf("P17.4: %+v: rows and preds belong to so many: %v, %v", n, rowsOf, predsOf)
		}
	}
}

// needPrint: P17.1, P17.3 of a query.
func needPrint(t *testing.T, q string, list ...string) {
	t.Helper()
	want := strings.Join(list, "\n") + "\n"
	n := needNet(t, query(t, q))
	if s, e := net.Print(n); s != want || e != api.OK {
		t.Errorf("P17.3: %s:\n%s%d, want\n%s", q, s, e, want)
	}
}

func TestExamples(t *testing.T) {
	needPrint(t, "//a[b[@c='x'] or not(d)]/text()",
		"main 3",
		"row 0: descendant-or-self::node()", "row 1: child::a 0", "row 2: child::text()", "row 3: child::b 4", "row 4: child::d", "row 5: self::node()",
		"pred 0: or 1 2", "pred 1: some 3 1", "pred 2: not 3", "pred 3: some 4 1", `pred 4: some 5 1 @c = "x"`)
	if n, e := net.Compile(api.Path{}); e != api.ErrShape || n.Main != 0 || n.Rows != nil || n.Preds != nil {
		t.Errorf("P17.1: no steps: %+v, %d", n, e)
	}
	for i, spoil := range []func(n *api.Net){
		func(n *api.Net) { n.Preds[1], n.Preds[3] = n.Preds[3], n.Preds[1] },
		func(n *api.Net) { n.Main = 2 },
		func(n *api.Net) { n.Rows = append(n.Rows, child6()) },
		func(n *api.Net) { n.Rows[1].Preds = []int{0, 0} },
	} {
		n := needNet(t, query(t, "//a[b[@c='x'] or not(d)]/text()"))
		spoil(&n)
		if judge(t, n) || net.Check(n) != api.ErrShape {
			t.Errorf("P17.2: example %d: Check %d", i, net.Check(n))
		}
	}
}

// child6: a row that belongs to nothing.
func child6() api.Row { return api.Row{Name: "e"} }

// TestPrint: nets written by hand.
func TestPrint(t *testing.T) {
	needPrint(t, ".", "main 1", "row 0: self::node()")
	needPrint(t, "a/b", "main 2", "row 0: child::a", "row 1: child::b")
	needPrint(t, "self::*/descendant::text()/descendant-or-self::é/child::node()", "main 4", "row 0: self::*", "row 1: descendant::text()", "row 2: descendant-or-self::é", "row 3: child::node()")
	needPrint(t, "a[b][c]", "main 1", "row 0: child::a 0 1", "row 1: child::b", "row 2: child::c", "pred 0: some 1 1", "pred 1: some 2 1")
	needPrint(t, "a[b[c]]/d[e]", "main 2",
		"row 0: child::a 0", "row 1: child::d 1", "row 2: child::b 2", "row 3: child::e", "row 4: child::c",
		"pred 0: some 2 1", "pred 1: some 3 1", "pred 2: some 4 1")
	needPrint(t, "a[b[c]/d[e] and f][g]", "main 1",
		"row 0: child::a 0 3", "row 1: child::b 4", "row 2: child::d 5", "row 3: child::f", "row 4: child::g", "row 5: child::c", "row 6: child::e",
		"pred 0: and 1 2", "pred 1: some 1 2", "pred 2: some 3 1", "pred 3: some 4 1", "pred 4: some 5 1", "pred 5: some 6 1")
	needPrint(t, "a[not((b or c) and not(d)) or e and f and g]", "main 1",
		"row 0: child::a 0", "row 1: child::b", "row 2: child::c", "row 3: child::d", "row 4: child::e", "row 5: child::f", "row 6: child::g",
		"pred 0: or 1 8", "pred 1: not 2", "pred 2: and 3 6", "pred 3: or 4 5", "pred 4: some 1 1", "pred 5: some 2 1", "pred 6: not 7", "pred 7: some 3 1",
		"pred 8: and 9 10 11", "pred 9: some 4 1", "pred 10: some 5 1", "pred 11: some 6 1")
	needPrint(t, "a[b = 'x'][b != 'x'][starts-with(b, 'x')][ends-with(b, 'x')][contains(b, 'x')][string-length(b) = 7][string-length(b) > 1000000][string-length(b) < 0][b]", "main 1",
		"row 0: child::a 0 1 2 3 4 5 6 7 8", "row 1: child::b", "row 2: child::b", "row 3: child::b", "row 4: child::b", "row 5: child::b", "row 6: child::b", "row 7: child::b", "row 8: child::b", "row 9: child::b",
		`pred 0: some 1 1 = "x"`, `pred 1: some 2 1 != "x"`, `pred 2: some 3 1 starts-with "x"`, `pred 3: some 4 1 ends-with "x"`, `pred 4: some 5 1 contains "x"`, "pred 5: some 6 1 length = 7", "pred 6: some 7 1 length > 1000000", "pred 7: some 8 1 length < 0", "pred 8: some 9 1")
	needPrint(t, "a[@c = 'x'][b/@c != '\"'][.//@c][contains(@c, \"'\")][string-length(b//@c) > 2]", "main 1",
		"row 0: child::a 0 1 2 3 4", "row 1: self::node()", "row 2: child::b", "row 3: self::node()", "row 4: descendant-or-self::node()", "row 5: self::node()", "row 6: child::b", "row 7: descendant-or-self::node()",
		`pred 0: some 1 1 @c = "x"`, `pred 1: some 2 1 @c != '"'`, "pred 2: some 3 2 @c", `pred 3: some 5 1 @c contains "'"`, "pred 4: some 6 2 @c length > 2")
	needPrint(t, "and[or='a\nb']/text", "main 2", "row 0: child::and 0", "row 1: child::text", "row 2: child::or", "pred 0: some 2 1 = \"a\nb\"")
}

// TestKinds: every axis with every test, every kind of expression with every comparison, with an attribute and without.
func TestKinds(t *testing.T) {
	for axis := api.Child; axis <= api.Self; axis++ {
		for test := api.Named; test <= api.AnyNode; test++ {
			s := api.Step{Axis: axis, Test: test}
			if test == api.Named {
				s.Name = "é"
			}
			needNet(t, steps(s))
			for _, attr := range []string{"", "x"} {
				for c := api.Exists; c <= api.Shorter; c++ {
					x := there(s, here())
					x.Attr, x.Compare = attr, c
					if c >= api.LengthIs {
						x.Number = 3
					} else if c >= api.Equal {
						x.Text = "it's"
					}
					for _, y := range []api.Expr{x, no(x), allOf(x, x), oneOf(x, x, x), no(allOf(no(x), oneOf(x, allOf(x, x)))), there(child("b", x), child("c", no(x), x))} {
						needNet(t, steps(child("a", y), s))
						needNet(t, steps(child("a", x, y), child("d", y)))
					}
				}
			}
		}
	}
	for _, q := range queries() {
		needNet(t, query(t, q))
	}
}

// needNone: P17.1: of what is no query's path.
func needNone(t *testing.T, what string, p api.Path) {
	t.Helper()
	n, e := net.Compile(p)
	if e != api.ErrShape || n.Main != 0 || len(n.Rows) > 0 || len(n.Preds) > 0 {
		t.Errorf("P17.1: %s: %+v, %d, want ErrShape", what, n, e)
	}
	if e := net.Check(made(p)); e != api.ErrShape {
		t.Errorf("P17.2: %s: Check of what would be its net: %d", what, e)
	}
	judge(t, made(p))
}

// TestNoPaths: paths that are no query's have no net, and what would be it is none.
func TestNoPaths(t *testing.T) {
	b := there(child("b"))
	for what, x := range map[string]api.Expr{
		"And of nothing": {Op: api.And}, "And of one": allOf(b), "Or of nothing": {Op: api.Or}, "Or of one": oneOf(b), "Not of nothing": {Op: api.Not}, "Not of two": {Op: api.Not, Args: []api.Expr{b, b}},
		"Some of no steps": {Op: api.Some}, "Some with a wrong name": there(child("1")), "a wrong attribute": {Op: api.Some, Path: b.Path, Attr: "a b"},
		"an attribute of And": {Op: api.And, Args: []api.Expr{b, b}, Attr: "a"}, "a text of Or": {Op: api.Or, Args: []api.Expr{b, b}, Text: "x"}, "a number of Not": {Op: api.Not, Args: []api.Expr{b}, Number: 1}, "a comparison of Not": {Op: api.Not, Args: []api.Expr{b}, Compare: api.Equal},
		"a text of Exists": withText(b, api.Exists, "x"), "a number of Exists": withNumber(b, api.Exists, 1), "a number of Equal": withNumber(withText(b, api.Equal, "x"), api.Equal, 1), "a text of LengthIs": withText(b, api.LengthIs, "x"),
		"a comparison that is none": {Op: api.Some, Path: b.Path, Compare: 9}, "a comparison below 0": {Op: api.Some, Path: b.Path, Compare: -1},
		"both quotes": withText(b, api.Equal, `'"`), "a text of wrong bytes": withText(b, api.Contains, "\xFF"), "a number below 0": withNumber(b, api.Longer, -1), "a number too great": withNumber(b, api.Shorter, api.MaxNumber+1),
	} {
		needNone(t, what, steps(child("a", x)))
		needNone(t, what+" in not", steps(child("a", no(x))))
		needNone(t, what+" behind another", steps(child("a", b), child("c", allOf(b, x))))
		needNone(t, what+" in a predicate", steps(child("a", there(child("c"), child("d", x)))))
	}
	for what, s := range map[string]api.Step{
		"no name": {}, "a wrong name": child("a b"), "a name of wrong bytes": child("a\xFF"), "an axis that is none": {Axis: 4, Name: "a"}, "an axis below 0": {Axis: -1, Name: "a"}, "a test that is none": {Test: 4}, "a test below 0": {Test: -1}, "a name of a text": {Test: api.TextNode, Name: "a"},
	} {
		needNone(t, what, steps(s))
		needNone(t, what+" behind another", steps(child("a"), s))
		needNone(t, what+" in a predicate", steps(child("a", there(s, child("a")))))
	}
	needNone(t, "no steps", api.Path{})
	needNone(t, "an empty list of steps", api.Path{Steps: []api.Step{}})
	// An Args of Some, a path of Not, an Op that is none: the plain reading makes nothing of them that could be a net.
	for what, x := range map[string]api.Expr{
		"arguments of Some": {Op: api.Some, Path: b.Path, Args: []api.Expr{b}}, "a path of Not": {Op: api.Not, Args: []api.Expr{b}, Path: b.Path}, "a path of And": {Op: api.And, Args: []api.Expr{b, b}, Path: b.Path}, "an Op that is none": {Op: 4, Path: b.Path}, "an Op below 0": {Op: -1, Args: []api.Expr{b}}, "a great Op": {Op: 1 << 62},
	} {
		if n, e := net.Compile(steps(child("a", b, x))); e != api.ErrShape || n.Main != 0 || len(n.Rows) > 0 || len(n.Preds) > 0 {
			t.Errorf("P17.1: %s: %+v, %d, want ErrShape", what, n, e)
		}
	}
}

// TestEmpty: the zero net is none; nil and empty lists are one.
func TestEmpty(t *testing.T) {
	for _, n := range []api.Net{{}, {Main: 1}, {Main: -1}, {Rows: []api.Row{{Name: "a"}}}, {Rows: []api.Row{}, Preds: []api.Pred{}}, {Preds: []api.Pred{{}}}, {Main: 1, Preds: []api.Pred{{Op: api.Some}}}, {Preds: []api.Pred{{Op: api.Some}}}} {
		if judge(t, n) {
			t.Errorf("%+v is a net by the plain reading", n)
		}
	}
	for _, q := range queries() {
		p := query(t, q)
		if n, e := net.Compile(withEmpty(p)); e != api.OK || !reflect.DeepEqual(tidy(n), tidy(made(p))) {
			t.Errorf("rule 4: %s: empty lists: %+v, %d", q, n, e)
		}
		n := needNet(t, p)
		for i := range n.Rows {
			n.Rows[i].Preds = append([]int{}, n.Rows[i].Preds...)
		}
		for i := range n.Preds {
			n.Preds[i].Args = append([]int{}, n.Preds[i].Args...)
		}
		if n.Preds == nil {
			n.Preds = []api.Pred{}
		}
		back, e := net.Path(n)
		s, f := net.Print(n)
		if net.Check(n) != api.OK || e != api.OK || f != api.OK || !ask.Same(back, p) || s != lines(n) {
			t.Errorf("rule 4: %s: empty lists: Check %d, Path %+v, %d, Print %q, %d", q, net.Check(n), back, e, s, f)
		}
		n = tidy(n)
		if net.Check(n) != api.OK {
			t.Errorf("rule 4: %s: nil lists: Check %d", q, net.Check(n))
		}
	}
}

// withEmpty: a copy in which no list is nil.
func withEmpty(p api.Path) api.Path {
	list := []api.Step{}
	for _, s := range p.Steps {
		s.Where = withEmptyExprs(s.Where)
		list = append(list, s)
	}
	return api.Path{Steps: list}
}

func withEmptyExprs(exprs []api.Expr) []api.Expr {
	list := []api.Expr{}
	for _, x := range exprs {
		x.Args, x.Path = withEmptyExprs(x.Args), withEmpty(x.Path)
		list = append(list, x)
	}
	return list
}
