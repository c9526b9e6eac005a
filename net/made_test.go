package net_test

import (
	"math/rand/v2"
	"strconv"
	"strings"
	"testing"

	"gimlet/api"
	"gimlet/ask"
)

// What follows makes paths, and reads the chapter's words plainly: it makes nets of paths, paths of nets, and lines.

// query: the path of what must be a query.
func query(t testing.TB, q string) api.Path {
	t.Helper()
	p, err := ask.Parse([]byte(q), api.MaxQuery, api.MaxNested)
	if err != nil {
		t.Fatalf("%.80q is no query: %v", q, err)
	}
	return p
}

func steps(list ...api.Step) api.Path { return api.Path{Steps: list} }

func child(name string, where ...api.Expr) api.Step {
	return api.Step{Name: name, Where: where}
}

func here() api.Step { return api.Step{Axis: api.Self, Test: api.AnyNode} }

func there(list ...api.Step) api.Expr { return api.Expr{Op: api.Some, Path: steps(list...)} }

func withText(x api.Expr, c api.Compare, text string) api.Expr {
	x.Compare, x.Text = c, text
	return x
}

func withNumber(x api.Expr, c api.Compare, number int) api.Expr {
	x.Compare, x.Number = c, number
	return x
}

func allOf(list ...api.Expr) api.Expr { return api.Expr{Op: api.And, Args: list} }

func oneOf(list ...api.Expr) api.Expr { return api.Expr{Op: api.Or, Args: list} }

func no(x api.Expr) api.Expr { return api.Expr{Op: api.Not, Args: []api.Expr{x}} }

// wrapped: x within that many of what around makes.
func wrapped(n int, x api.Expr, around func(api.Expr) api.Expr) api.Expr {
	for range n {
		x = around(x)
	}
	return x
}

// queries: of all kinds.
func queries() []string {
	return []string{
		"a", ".", "//a", "a/b/c", "text()", "//node()/descendant::*/self::a/descendant-or-self::text()", "//a[b[@c='x'] or not(d)]/text()",
		"a[b]", "a[b][c][d]", "a[b][c]/d[e][f]", "a[b/c]/d[e/f]", "a[b[c[d[e]]]]", "a[b[c][d]/e[f]][g[h]]/i[j]", "a[.]", "a[@x]", "a[b//@x]",
		"a[b and c]", "a[b or c or d]", "a[not(b)]", "a[not(not(b))]", "a[b and c or d and e]", "a[(b or c) and (d or e)]", "a[not(b and not(c or d))][e or f]", "a[b and (c and d)]", "a[b or (c or d)]", "a[b[x] and c[y or z]]/d[not(e[@f])]",
		"a[b = 'x']", "a[b != 'x']", "a[starts-with(b, 'x')]", "a[ends-with(b, 'x')]", "a[contains(b, 'x')]", "a[string-length(b) = 0]", "a[string-length(b) > 7]", "a[string-length(b) < 1000000]",
		"a[@b = 'x' and @c != \"it's\" and starts-with(@d, 'say \"x\"') and ends-with(@e, '') and contains(@f, 'é')]", "a[string-length(@b) = 1 or string-length(.//@c) > 2 or string-length(.) < 3]",
		"a[b[c = 'x'] = 'y'] / b[not(starts-with(c[d], 'z'))] [string-length(e[f]/g[@h]) = 5]", "*[*]", "//*[.//*[.//text()]]", "and[or and not]/not[and or text]",
	}
}

func someNames() []string {
	return []string{"a", "b", "c", "é", "a-.7", "_", "\uFFFD", "\U00010000", "and", "text", "child", "main", "row", "some"}
}

func someTexts() []string {
	return []string{"", "x", "'", `"`, "it's", `say "x"`, "\x00\n\r", "é", "]", " and ", "\uFFFF", "\U0010FFFF", "row 0: child::a", "a b  c"}
}

func someNumbers() []int { return []int{0, 1, 7, 10, 999999, api.MaxNumber} }

// maker makes queries' paths by chance.
type maker struct{ r *rand.Rand }

func newMaker(seed uint64) maker { return maker{rand.New(rand.NewPCG(seed, 17))} }

func pick[T any](m maker, list []T) T { return list[m.r.IntN(len(list))] }

func (m maker) path(deep int) api.Path {
	var list []api.Step
	for range 1 + m.r.IntN(3) {
		list = append(list, m.step(deep))
	}
	return steps(list...)
}

func (m maker) step(deep int) api.Step {
	s := api.Step{Axis: api.Axis(m.r.IntN(4)), Test: api.Test(m.r.IntN(4))}
	if s.Test == api.Named {
		s.Name = pick(m, someNames())
	}
	for deep > 0 && len(s.Where) < 5 && m.r.IntN(5) < 2 {
		s.Where = append(s.Where, m.expr(deep-1))
	}
	return s
}

func (m maker) expr(deep int) api.Expr {
	op := api.Some
	if deep > 0 {
		op = api.Op(m.r.IntN(4))
	}
	switch op {
	case api.Not:
		return no(m.expr(deep - 1))
	case api.Some:
		return m.some(deep)
	}
	x := api.Expr{Op: op}
	for range 2 + m.r.IntN(2) {
		x.Args = append(x.Args, m.expr(deep-1))
	}
	return x
}

func (m maker) some(deep int) api.Expr {
	x := api.Expr{Op: api.Some, Path: m.path(deep), Compare: api.Compare(m.r.IntN(9))}
	if m.r.IntN(2) == 0 {
		x.Attr = pick(m, someNames())
	}
	switch {
	case x.Compare >= api.LengthIs:
		x.Number = pick(m, someNumbers())
	case x.Compare >= api.Equal:
		x.Text = pick(m, someTexts())
	}
	return x
}

// made: the net of a path, by the chapter's section 'The net'. Of what is no query's path it keeps the fields that are to be zero.
func made(p api.Path) api.Net {
	n := api.Net{Main: len(p.Steps)}
	waiting := [][]api.Expr{} // of each row its step's predicates
	lay := func(p api.Path) {
		for _, s := range p.Steps {
			n.Rows = append(n.Rows, api.Row{Axis: s.Axis, Test: s.Test, Name: s.Name})
			waiting = append(waiting, s.Where)
		}
	}
	var add func(x api.Expr) int
	add = func(x api.Expr) int {
		k := len(n.Preds)
		n.Preds = append(n.Preds, api.Pred{Op: x.Op, Attr: x.Attr, Compare: x.Compare, Text: x.Text, Number: x.Number})
		if x.Op == api.Some {
			n.Preds[k].First, n.Preds[k].Count = len(n.Rows), len(x.Path.Steps)
			lay(x.Path)
			return k
		}
		for _, y := range x.Args {
			number := add(y)
			n.Preds[k].Args = append(n.Preds[k].Args, number)
		}
		return k
	}
	lay(p)
	for i := 0; i < len(n.Rows); i++ {
		for _, x := range waiting[i] {
			number := add(x)
			n.Rows[i].Preds = append(n.Rows[i].Preds, number)
		}
	}
	return n
}

// count goes through a net's rows as the chapter's words do, and holds each number against how many there were ahead of it.
type count struct {
	n           api.Net
	rows, preds int
}

// isNumbered: do all its numbers stand as in a net that is made of some path?
func isNumbered(n api.Net) bool {
	if n.Main < 0 || n.Main > len(n.Rows) {
		return false
	}
	c := &count{n: n, rows: n.Main}
	for i := 0; i < c.rows; i++ {
		if !c.all(n.Rows[i].Preds) {
			return false
		}
	}
	return c.rows == len(n.Rows) && c.preds == len(n.Preds)
}

func (c *count) all(numbers []int) bool {
	for _, k := range numbers {
		if k != c.preds || k >= len(c.n.Preds) {
			return false
		}
		c.preds++
		x := c.n.Preds[k]
		if x.Op == api.Some {
			if x.First != c.rows || x.Count < 0 || x.Count > len(c.n.Rows)-c.rows || len(x.Args) > 0 {
				return false
			}
			c.rows += x.Count
		} else if x.First != 0 || x.Count != 0 || !c.all(x.Args) {
			return false
		}
	}
	return true
}

// unmade: the path of a net that isNumbered.
func unmade(n api.Net) api.Path { return unmadePath(n, 0, n.Main) }

func unmadePath(n api.Net, first, many int) api.Path {
	var p api.Path
	for _, r := range n.Rows[first : first+many] {
		p.Steps = append(p.Steps, api.Step{Axis: r.Axis, Test: r.Test, Name: r.Name, Where: unmadeExprs(n, r.Preds)})
	}
	return p
}

func unmadeExprs(n api.Net, numbers []int) []api.Expr {
	var list []api.Expr
	for _, k := range numbers {
		x := n.Preds[k]
		list = append(list, api.Expr{Op: x.Op, Args: unmadeExprs(n, x.Args), Path: unmadePath(n, x.First, x.Count), Attr: x.Attr, Compare: x.Compare, Text: x.Text, Number: x.Number})
	}
	return list
}

// isNet: P17.2, by the plain reading.
func isNet(n api.Net) bool { return isNumbered(n) && ask.Check(unmade(n)) == api.OK }

// lines: P17.3, of any net that isNet.
func lines(n api.Net) string {
	out := "main " + strconv.Itoa(n.Main) + "\n"
	for i, r := range n.Rows {
		axis := []string{"child", "descendant", "descendant-or-self", "self"}[r.Axis]
		test := []string{r.Name, "*", "text()", "node()"}[r.Test]
		out += "row " + strconv.Itoa(i) + ": " + axis + "::" + test + numbers(r.Preds) + "\n"
	}
	for i, x := range n.Preds {
		out += "pred " + strconv.Itoa(i) + ": "
		if x.Op == api.Some {
			out += "some " + strconv.Itoa(x.First) + " " + strconv.Itoa(x.Count)
			if x.Attr != "" {
				out += " @" + x.Attr
			}
			out += compared(x)
		} else {
			out += []string{"and", "or", "not"}[x.Op] + numbers(x.Args)
		}
		out += "\n"
	}
	return out
}

func numbers(list []int) string {
	out := ""
	for _, n := range list {
		out += " " + strconv.Itoa(n)
	}
	return out
}

func compared(x api.Pred) string {
	quote := `"`
	if strings.Contains(x.Text, quote) {
		quote = "'"
	}
	text, number := quote+x.Text+quote, strconv.Itoa(x.Number)
	return []string{"", " = " + text, " != " + text, " starts-with " + text, " ends-with " + text, " contains " + text, " length = " + number, " length > " + number, " length < " + number}[x.Compare]
}

// tidy: a copy in which lists without items are nil, so that reflect.DeepEqual tells what is alike; none shares memory with another.
func tidy(n api.Net) api.Net {
	var rows []api.Row
	for _, r := range n.Rows {
		r.Preds = append([]int(nil), r.Preds...)
		rows = append(rows, r)
	}
	var preds []api.Pred
	for _, x := range n.Preds {
		x.Args = append([]int(nil), x.Args...)
		preds = append(preds, x)
	}
	return api.Net{Main: n.Main, Rows: rows, Preds: preds}
}
