package ask_test

import (
	"math/rand/v2"
	"slices"
	"strconv"
	"strings"

	"gimlet/api"
	"gimlet/lexis"
)

// What follows makes paths, and writes them as queries in all ways that the chapter allows.

func steps(list ...api.Step) api.Path { return api.Path{Steps: list} }

func child(name string, where ...api.Expr) api.Step {
	return api.Step{Name: name, Where: where}
}

func here() api.Step { return api.Step{Axis: api.Self, Test: api.AnyNode} }

func anyDepth() api.Step { return api.Step{Axis: api.OrSelf, Test: api.AnyNode} }

func there(list ...api.Step) api.Expr { return api.Expr{Op: api.Some, Path: steps(list...)} }

func attr(name string, list ...api.Step) api.Expr {
	if len(list) == 0 {
		list = []api.Step{here()}
	}
	return api.Expr{Op: api.Some, Path: steps(list...), Attr: name}
}

func withText(x api.Expr, c api.Compare, text string) api.Expr {
	x.Compare, x.Text = c, text
	return x
}

func withNumber(x api.Expr, c api.Compare, number int) api.Expr {
	x.Compare, x.Number = c, number
	return x
}

func allOf(list ...api.Expr) api.Expr { return api.Expr{Op: api.And, Args: list} }

func oneOf(list ...api.Expr) api.Expr { return api.Expr{Op: api.Or, Args: list} }

func no(x api.Expr) api.Expr { return api.Expr{Op: api.Not, Args: []api.Expr{x}} }

// languageNames: names that are words of the language, too.
func languageNames() []string {
	return []string{"and", "or", "not", "text", "node", "child", "descendant", "descendant-or-self", "self", "starts-with", "ends-with", "contains", "string-length"}
}

func someNames() []string {
	return append(languageNames(), "a", "b", "c", "é", "a-.7", "_", "\uFFFD", "\U00010000")
}

func someTexts() []string {
	return []string{"", "x", "'", `"`, "it's", `say "x"`, "\x00\n\r", "é", "]", " and ", "\uFFFF", "//a[b='", "a b  c"}
}

func someNumbers() []int { return []int{0, 1, 7, 10, 999999, api.MaxNumber} }

// maker makes paths that are queries'.
type maker struct{ r *rand.Rand }

func pick[T any](m maker, list []T) T { return list[m.r.IntN(len(list))] }

func (m maker) path(deep int) api.Path {
	var list []api.Step
	for range 1 + m.r.IntN(3) {
		list = append(list, m.step(deep))
	}
	return steps(list...)
}

func (m maker) step(deep int) api.Step {
	switch m.r.IntN(6) {
	case 0:
		return here()
	case 1:
		return anyDepth()
	}
	s := api.Step{Axis: api.Axis(m.r.IntN(4)), Test: api.Test(m.r.IntN(4))}
	if s.Test == api.Named {
		s.Name = pick(m, someNames())
	}
	for deep > 0 && m.r.IntN(3) == 0 {
		s.Where = append(s.Where, m.expr(deep-1))
	}
	return s
}

func (m maker) expr(deep int) api.Expr {
	op := api.Some
	if deep > 0 {
		op = api.Op(m.r.IntN(4))
	}
	switch op {
	case api.Not:
		return no(m.expr(deep - 1))
	case api.Some:
		return m.some(deep)
	}
	x := api.Expr{Op: op}
	for range 2 + m.r.IntN(2) {
		x.Args = append(x.Args, m.expr(deep-1))
	}
	return x
}

func (m maker) some(deep int) api.Expr {
	x := api.Expr{Op: api.Some, Path: m.path(deep), Compare: api.Compare(m.r.IntN(9))}
	switch m.r.IntN(4) {
	case 0:
		x.Attr = pick(m, someNames())
	case 1:
		x.Attr, x.Path = pick(m, someNames()), steps(here())
	}
	switch {
	case x.Compare >= api.LengthIs:
		x.Number = pick(m, someNumbers())
	case x.Compare >= api.Equal:
		x.Text = pick(m, someTexts())
	}
	return x
}

// writer writes a path as a query's words. Where there are several ways to write something, choose(n) takes one of n of them; 0 is always that of P11.3. It writes whatever it is given.
type writer struct {
	choose func(int) int
	words  []string
}

// plainly: as P11.3 asks.
func plainly(p api.Path) string {
	w := &writer{choose: func(int) int { return 0 }}
	w.query(p)
	return strings.Join(w.words, "")
}

// loosely: in some other way, with blanks here and there.
func loosely(p api.Path, choose func(int) int) string {
	w := &writer{choose: choose}
	w.query(p)
	var out strings.Builder
	last := ""
	for _, word := range w.words {
		word = strings.Trim(word, " ")
		if word == "" {
			continue
		}
		blanks := []string{"", "", " ", "\n", "\r\n", "\t "}
		if touches(last, word) {
			blanks = blanks[2:]
		}
		out.WriteString(blanks[choose(len(blanks))])
		out.WriteString(word)
		last = word
	}
	return out.String()
}

// touches: would the two be one word, or none, without a blank between them?
func touches(a, b string) bool {
	if a == "" {
		return false
	}
	return kindOf(a) != api.WordSign && kindOf(a) != api.WordText && (kindOf(b) == api.WordName || kindOf(b) == api.WordNumber || b == ".")
}

// kindOf: of a word as it is written.
func kindOf(word string) api.WordKind {
	list, err := lexis.Words([]byte(word))
	if err != nil || len(list) != 1 {
		return -1
	}
	return list[0].Kind
}

func (w *writer) add(words ...string) { w.words = append(w.words, words...) }

func (w *writer) query(p api.Path) {
	list := p.Steps
	switch {
	case len(list) > 1 && isAnyDepth(list[0]) && w.choose(2) == 1:
		w.add("//")
		list = list[1:]
	case w.choose(3) == 1:
		w.add("/")
	}
	w.steps(list, "")
}

func isAnyDepth(s api.Step) bool {
	return s.Axis == api.OrSelf && s.Test == api.AnyNode && s.Name == "" && len(s.Where) == 0
}

func (w *writer) steps(list []api.Step, attribute string) {
	for i := 0; i < len(list); i++ {
		if i > 0 {
			last := i == len(list)-1
			if isAnyDepth(list[i]) && !(last && attribute == "") && w.choose(2) == 1 {
				w.add("//")
				if last {
					w.add("@", attribute)
					return
				}
				i++
			} else {
				w.add("/")
			}
		}
		w.step(list[i])
	}
	if attribute != "" {
		w.add("/", "@", attribute)
	}
}

func (w *writer) step(s api.Step) {
	if s.Axis == api.Self && s.Test == api.AnyNode && s.Name == "" && len(s.Where) == 0 && w.choose(3) < 2 {
		w.add(".")
		return
	}
	switch s.Axis {
	case api.Child:
		if w.choose(3) == 1 {
			w.add("child", "::")
		}
	case api.Descendant:
		w.add("descendant", "::")
	case api.OrSelf:
		w.add("descendant-or-self", "::")
	case api.Self:
		w.add("self", "::")
	default:
		w.add("?")
	}
	switch s.Test {
	case api.Named:
	case api.AnyName:
		w.add("*")
	case api.TextNode:
		w.add("text", "(", ")")
	case api.AnyNode:
		w.add("node", "(", ")")
	default:
		w.add("?")
	}
	w.add(s.Name)
	for _, x := range s.Where {
		w.add("[")
		w.expr(x, false)
		w.add("]")
	}
}

// expr: in brackets where it must be, or where it is chosen so.
func (w *writer) expr(x api.Expr, brackets bool) {
	if brackets || w.choose(6) == 1 {
		w.add("(")
		w.expr(x, false)
		w.add(")")
		return
	}
	switch x.Op {
	case api.And, api.Or:
		w.parts(x)
	case api.Not:
		w.add("not", "(")
		for _, part := range x.Args {
			w.expr(part, false)
		}
		w.add(")")
	case api.Some:
		w.some(x)
	default:
		w.add("?")
	}
}

func (w *writer) parts(x api.Expr) {
	between := " and "
	if x.Op == api.Or {
		between = " or "
	}
	for i, part := range x.Args {
		if i > 0 {
			w.add(between)
		}
		w.expr(part, part.Op == api.Or || x.Op == api.And && part.Op == api.And)
	}
}

func (w *writer) some(x api.Expr) {
	switch x.Compare {
	case api.Exists:
		w.compared(x)
		w.add(x.Text)
	case api.Equal:
		w.compared(x)
		w.add("=", w.quoted(x.Text))
	case api.Unequal:
		w.compared(x)
		w.add("!=", w.quoted(x.Text))
	case api.Begins:
		w.call("starts-with", x)
	case api.Ends:
		w.call("ends-with", x)
	case api.Contains:
		w.call("contains", x)
	case api.LengthIs:
		w.length(x, "=")
	case api.Longer:
		w.length(x, ">")
	case api.Shorter:
		w.length(x, "<")
	default:
		w.add("?")
	}
}

func (w *writer) call(name string, x api.Expr) {
	w.add(name, "(")
	w.compared(x)
	w.add(",", w.quoted(x.Text), ")")
}

func (w *writer) length(x api.Expr, sign string) {
	w.add("string-length", "(")
	w.compared(x)
	w.add(")", sign, strings.Repeat("0", w.choose(3))+strconv.Itoa(x.Number))
}

func (w *writer) compared(x api.Expr) {
	list := x.Path.Steps
	if x.Attr != "" && len(list) == 1 && list[0].Axis == api.Self && list[0].Test == api.AnyNode && list[0].Name == "" && len(list[0].Where) == 0 && w.choose(2) == 0 {
		w.add("@", x.Attr)
		return
	}
	w.steps(list, x.Attr)
}

func (w *writer) quoted(text string) string {
	if strings.Contains(text, `"`) || !strings.Contains(text, "'") && w.choose(2) == 1 {
		return "'" + text + "'"
	}
	return `"` + text + `"`
}

// depths: for each word how many brackets that stand ahead of it are open, those of text() and node() left out; and which words are brackets that count.
func depths(words []api.Word) (around []int, counts []bool) {
	var open []bool // does it count?
	for i, word := range words {
		around = append(around, len(slices.DeleteFunc(slices.Clone(open), func(c bool) bool { return !c })))
		counted := false
		switch {
		case word.Kind != api.WordSign:
		case word.Text == "[" || word.Text == "(":
			ofTest := word.Text == "(" && i > 0 && words[i-1].Kind == api.WordName && (words[i-1].Text == "text" || words[i-1].Text == "node")
			counted = !ofTest
			open = append(open, counted)
		case (word.Text == "]" || word.Text == ")") && len(open) > 0:
			open = open[:len(open)-1]
		}
		counts = append(counts, counted)
	}
	return around, counts
}

// nestedText: how deep a query is nested, by its words.
func nestedText(q string) int {
	list, _ := lexis.Words([]byte(q))
	around, _ := depths(list)
	return slices.Max(append(around, 0))
}

// countPath: P11.5, steps and expressions, one by one.
func countPath(p api.Path) int {
	n := 0
	for _, s := range p.Steps {
		n++
		for _, x := range s.Where {
			n += countExpr(x)
		}
	}
	return n
}

func countExpr(x api.Expr) int {
	n := 1 + countPath(x.Path)
	for _, y := range x.Args {
		n += countExpr(y)
	}
	return n
}

// tidyPath: a copy in which lists without items are nil, so that reflect.DeepEqual tells what is alike.
func tidyPath(p api.Path) api.Path {
	var list []api.Step
	for _, s := range p.Steps {
		s.Where = tidyExprs(s.Where)
		list = append(list, s)
	}
	return api.Path{Steps: list}
}

func tidyExprs(exprs []api.Expr) []api.Expr {
	var list []api.Expr
	for _, x := range exprs {
		x.Path, x.Args = tidyPath(x.Path), tidyExprs(x.Args)
		list = append(list, x)
	}
	return list
}
