package ways_test

import (
	"math/rand/v2"
	"slices"
	"strconv"
	"strings"
	"testing"

	"gimlet/api"
	"gimlet/ask"
	"gimlet/kleene"
	"gimlet/nest"
	"gimlet/net"
	"gimlet/ways"
)

// What follows makes nets, documents' events and calls, and reads the chapter's words about them plainly.

// eventsOf: of what must be a document.
func eventsOf(t testing.TB, d string) []api.Event {
	t.Helper()
	list, err := nest.Events([]byte(d), api.MaxDepth)
	if err != nil {
		t.Fatalf("%.80q is no document: %v", d, err)
	}
	return list
}

// query: the path of what must be a query.
func query(t testing.TB, q string) api.Path {
	t.Helper()
	p, err := ask.Parse([]byte(q), api.MaxQuery, api.MaxNested)
	if err != nil {
		t.Fatalf("%.80q is no query: %v", q, err)
	}
	return p
}

// netOf: the net of what must be a query's path.
func netOf(t testing.TB, p api.Path) api.Net {
	t.Helper()
	n, e := net.Compile(p)
	if e != api.OK {
		t.Fatalf("%v is no query's path", shown(p))
	}
	return n
}

// started: a new Ways for what must be a net.
func started(t testing.TB, n api.Net) *ways.Ways {
	t.Helper()
	w, e := ways.New(n)
	if e != api.OK || w == nil {
		t.Fatalf("P19.1: New: %v, %d", w, e)
	}
	return w
}

// shown: a path as a query; of what is none just how many steps it has.
func shown(p api.Path) any {
	if text, e := ask.Print(p); e == api.OK {
		return text
	}
	return len(p.Steps)
}

// shownNet: a net as its query.
func shownNet(n api.Net) any {
	p, _ := net.Path(n)
	return shown(p)
}

func steps(list ...api.Step) api.Path { return api.Path{Steps: list} }

func child(name string, where ...api.Expr) api.Step {
	return api.Step{Name: name, Where: where}
}

func there(list ...api.Step) api.Expr { return api.Expr{Op: api.Some, Path: steps(list...)} }

func allOf(list ...api.Expr) api.Expr { return api.Expr{Op: api.And, Args: list} }

func no(x api.Expr) api.Expr { return api.Expr{Op: api.Not, Args: []api.Expr{x}} }

// asked: the step with so many predicates. What they ask doesn't matter to this layer, as what is known of them is set.
func asked(s api.Step, many int) api.Step {
	for range many {
		s.Where = append(s.Where, there(child("x")))
	}
	return s
}

// bareSteps: every axis with every test, of these names.
func bareSteps(names ...string) []api.Step {
	var list []api.Step
	for a := api.Child; a <= api.Self; a++ {
		for _, name := range names {
			list = append(list, api.Step{Axis: a, Name: name})
		}
		for test := api.AnyName; test <= api.AnyNode; test++ {
			list = append(list, api.Step{Axis: a, Test: test})
		}
	}
	return list
}

// queries: with predicates at many steps.
func queries() []string {
	return []string{
		"a", "//a", "//b/text()", "a[b]", "//a[x]//b", "//a[b]", "//a[@x]/b[@y]", "//*[x][y]/*[z]", "//node()[x]", "//text()[. = 'b']", "//a[x]/text()[. = 'b'][. != 'c']",
		"self::node()[x]//a", "self::node()[x]/a[y]/b", "//self::node()[x]/*", "//*[not(x or y)]/descendant::*[z]/self::b[x and y]", "descendant-or-self::node()[x]/descendant-or-self::*[y]/descendant-or-self::b[z]",
		"*[x]/*/*[y]//*[z]/text()", "//*[x]/*/*//b", "//*/a/*/*//b[x]", "a[x]//b[y]//a[z]//b", "//a/self::*[x]/self::node()[y]", "descendant::*[x]/self::a[y]/descendant-or-self::*[z]/text()", "//*[.//a[b[c]]][x]/node()[not(y)]",
	}
}

// documents: of many shapes.
func documents() []string {
	return []string{
		"<a/>", "<a>b</a>", "<a><b>x</b><c/></a>", "<a><b/>t<b/></a>", "<a><a><a/></a></a>", "<b>a<a>b</a></b>", "<a>b<b>a<c>c</c></b></a>", "<a><b/>a<b/><c><a/></c>b</a>",
		"<a b='' a='b'><b b='ab'>a<b b='b' c=''>b</b>ab</b><a a=''>b</a></a>", "<r><a><b/></a><a/><c>a<b/>b</c></r>", "<a><b><a>t<b>b</b></a></b><a><b><a><b/></a></b></a></a>", "<a><b><c>a</c></b><b><c>b</c><a b='a'/></b>c<c><b a='b'>ab</b></c></a>",
	}
}

// maker makes things by chance, the same ones each time.
type maker struct{ r *rand.Rand }

func newMaker(seed uint64) maker { return maker{rand.New(rand.NewPCG(seed, 19))} }

func pick[T any](m maker, list []T) T { return list[m.r.IntN(len(list))] }

func someNames() []string { return []string{"a", "b", "é"} }

// path: of at most so many steps.
func (m maker) path(most int) api.Path {
	var list []api.Step
	for range 1 + m.r.IntN(most) {
		list = append(list, m.step())
	}
	return steps(list...)
}

func (m maker) step() api.Step {
	if m.r.IntN(5) == 0 {
		return asked(api.Step{Axis: api.OrSelf, Test: api.AnyNode}, m.r.IntN(8)/7)
	}
	s := api.Step{Axis: api.Axis(m.r.IntN(4)), Test: api.Test(m.r.IntN(5))}
	if s.Test > api.AnyNode {
		s.Test = api.AnyNode
	}
	if s.Test == api.Named {
		s.Name = pick(m, someNames())
	}
	for len(s.Where) < 4 && m.r.IntN(5) < 2 {
		s.Where = append(s.Where, pick(m, []api.Expr{there(child("x")), no(there(child("x"))), allOf(there(child("x", there(child("y")))), there(child("y")))}))
	}
	return s
}

// plain is the chapter, word by word: all that was entered, and what is set.
type plain struct {
	n     api.Net
	own   []int // the own predicates
	nodes []*node
	open  []*node
}

// node is the root above, or one that was entered.
type node struct {
	event  api.Event
	isRoot bool
	parent *node
	set    map[int]api.Truth
	reach  []api.Truth // R, worked out anew when it is asked for
	isTold bool        // News was asked since it was entered
	last   api.Truth   // what News has answered last: False where nothing
}

func newPlain(n api.Net) *plain {
	p := &plain{n: n}
	for _, r := range n.Rows[:n.Main] {
		p.own = append(p.own, r.Preds...)
	}
	p.add(&node{isRoot: true, isTold: true})
	return p
}

func (p *plain) add(m *node) {
	m.set = map[int]api.Truth{}
	for _, pred := range p.own {
		m.set[pred] = api.Unknown
	}
	p.nodes = append(p.nodes, m)
	p.open = append(p.open, m)
}

func (p *plain) last() *node { return p.open[len(p.open)-1] }

func (m *node) isText() bool { return !m.isRoot && m.event.Kind == api.Text }

// elements: how many are open.
func (p *plain) elements() int {
	if p.last().isText() {
		return len(p.open) - 2
	}
	return len(p.open) - 1
}

// leaveText: of a text what isn't set is set False.
func (p *plain) leaveText() {
	m := p.last()
	if !m.isText() {
		return
	}
	for _, pred := range p.own {
		if m.set[pred] == api.Unknown {
			m.set[pred] = api.False
		}
	}
	p.open = p.open[:len(p.open)-1]
}

// enter: P19.2.
func (p *plain) enter(e api.Event) api.Errno {
	highest := -1
	for _, m := range p.nodes[1:] {
		highest = max(highest, m.event.Number)
	}
	if e.Kind != api.Open && e.Kind != api.Text || e.Number <= highest || e.Kind == api.Text && p.elements() == 0 {
		return api.ErrShape
	}
	p.leaveText()
	p.add(&node{event: e, parent: p.last()})
	return api.OK
}

// put: P19.3.
func (p *plain) put(depth, pred int, v api.Truth) api.Errno {
	if depth < 0 || depth >= len(p.open) || !slices.Contains(p.own, pred) || v != api.False && v != api.Unknown && v != api.True {
		return api.ErrRange
	}
	set := p.open[depth].set
	if set[pred] != api.Unknown && set[pred] != v {
		return api.ErrShape
	}
	set[pred] = v
	return api.OK
}

// leave: P19.4.
func (p *plain) leave() api.Errno {
	if p.elements() == 0 {
		return api.ErrShape
	}
	for _, v := range p.open[p.elements()].set {
		if v == api.Unknown {
			return api.ErrShape
		}
	}
	p.leaveText()
	p.open = p.open[:len(p.open)-1]
	return api.OK
}

// work: R of all nodes. Each stands behind the one it is in.
func (p *plain) work() {
	for _, m := range p.nodes {
		m.reach = make([]api.Truth, p.n.Main+1)
		m.reach[0] = truth(m.isRoot)
		for i := 1; i <= p.n.Main; i++ {
			r := p.n.Rows[i-1]
			all := []api.Truth{truth(m.meets(r)), m.led(r.Axis, i)}
			for _, pred := range r.Preds {
				all = append(all, m.set[pred])
			}
			m.reach[i] = kleene.And(all...)
		}
	}
}

// led: what the axis makes of R of the row ahead.
func (m *node) led(a api.Axis, i int) api.Truth {
	var above []api.Truth
	for in := m.parent; in != nil; in = in.parent {
		above = append(above, in.reach[i-1])
	}
	switch a {
	case api.Self:
		return m.reach[i-1]
	case api.OrSelf:
		return kleene.Or(append(above, m.reach[i-1])...)
	case api.Descendant:
		return kleene.Or(above...)
	}
	if m.parent == nil {
		return api.False
	}
	return above[0]
}

func (m *node) meets(r api.Row) bool {
	isElement := !m.isRoot && m.event.Kind == api.Open
	switch r.Test {
	case api.Named:
		return isElement && m.event.Name == r.Name
	case api.AnyName:
		return isElement
	case api.TextNode:
		return m.isText()
	}
	return true
}

func truth(holds bool) api.Truth {
	if holds {
		return api.True
	}
	return api.False
}

// news: P19.5.
func (p *plain) news() []api.Verdict {
	p.work()
	var list []api.Verdict
	for _, m := range p.nodes {
		v := m.reach[p.n.Main]
		isNews := !m.isTold && v != api.False || m.last == api.Unknown && v != api.Unknown
		if isNews {
			list = append(list, api.Verdict{Number: m.event.Number, Truth: v})
			m.last = v
		}
		m.isTold = true
	}
	return list
}

// counts: P19.6.
func (p *plain) counts() (entries, formulas int) {
	p.work()
	for _, m := range p.open {
		for _, v := range m.reach[1:] {
			if v != api.False {
				entries++
			}
			if v == api.Unknown {
				formulas++
			}
		}
	}
	return entries, formulas
}

// trial is a Ways beside the chapter; each of its calls is held against it.
type trial struct {
	t     testing.TB
	w     *ways.Ways
	p     *plain
	calls []string
	came  [3]int // how often each value came in News
}

func newTrial(t testing.TB, n api.Net) *trial {
	t.Helper()
	x := &trial{t: t, w: started(t, n), p: newPlain(n)}
	x.needCounts()
	return x
}

// need: a call's error, and the counts behind it.
func (x *trial) need(promise, call string, got, want api.Errno) api.Errno {
	x.t.Helper()
	x.calls = append(x.calls, call)
	if got != want {
		x.t.Fatalf("%s: %v: %s: %d, want %d", promise, shownNet(x.p.n), strings.Join(x.calls, " "), got, want)
	}
	x.needCounts()
	return got
}

func (x *trial) needCounts() {
	x.t.Helper()
	entries, formulas := x.p.counts()
	if gotE, gotF := x.w.Entries(), x.w.Formulas(); gotE != entries || gotF != formulas {
		x.t.Fatalf("P19.6: %v: %s: %d, %d, want %d, %d", shownNet(x.p.n), strings.Join(x.calls, " "), gotE, gotF, entries, formulas)
	}
}

func (x *trial) enter(e api.Event) api.Errno {
	x.t.Helper()
	call := "+" + e.Name
	if e.Kind == api.Text {
		call = "'"
	} else if e.Kind != api.Open {
		call = "kind" + strconv.Itoa(int(e.Kind))
	}
	return x.need("P19.2", call+"#"+strconv.Itoa(e.Number), x.w.Enter(e), x.p.enter(e))
}

func (x *trial) set(depth, pred int, v api.Truth) api.Errno {
	x.t.Helper()
	call := strconv.Itoa(depth) + "." + strconv.Itoa(pred) + "=" + letter(v)
	return x.need("P19.3", call, x.w.Set(depth, pred, v), x.p.put(depth, pred, v))
}

func (x *trial) leave() api.Errno {
	x.t.Helper()
	return x.need("P19.4", "-", x.w.Leave(), x.p.leave())
}

// news: P19.5, and what it says.
func (x *trial) news() string {
	x.t.Helper()
	x.calls = append(x.calls, "?")
	got, want := x.w.News(), x.p.news()
	if !slices.Equal(got, want) {
		x.t.Fatalf("P19.5: %v: %s: %s, want %s", shownNet(x.p.n), strings.Join(x.calls, " "), said(got), said(want))
	}
	for _, v := range got {
		x.came[v.Truth]++
	}
	x.needCounts()
	return said(got)
}

// next: the event of a node with the next number.
func (x *trial) next(kind api.EventKind, name string) api.Event {
	return api.Event{Kind: kind, Number: x.p.nodes[len(x.p.nodes)-1].event.Number + min(1, len(x.p.nodes)-1), Name: name}
}

// setAll: what isn't set at that depth.
func (x *trial) setAll(depth int, v func() api.Truth) {
	x.t.Helper()
	for _, pred := range x.p.own {
		if x.p.open[depth].set[pred] == api.Unknown {
			x.set(depth, pred, v())
		}
	}
}

func letter(v api.Truth) string {
	if v < api.False || v > api.True {
		return "?" + strconv.Itoa(int(v))
	}
	return "FUT"[v : v+1]
}

// said: verdicts as "1U 2T".
func said(list []api.Verdict) string {
	var all []string
	for _, v := range list {
		all = append(all, strconv.Itoa(v.Number)+letter(v.Truth))
	}
	return strings.Join(all, " ")
}
