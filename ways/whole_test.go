package ways_test

import (
	"slices"
	"testing"

	"gimlet/api"
	"gimlet/half"
	"gimlet/hopes"
	"gimlet/ways"
)

// What follows holds each answer against the chapter's words, read plainly, and what is known of nodes against layer 15.

// needCame: each value came so often in News, so that a test that tries nothing is seen.
func needCame(t *testing.T, came [3]int, least int) {
	t.Helper()
	for v, many := range came {
		if many < least {
			t.Errorf("%s came only %d times", letter(api.Truth(v)), many)
		}
	}
}

// chance: what a run by chance leans to.
type chance struct {
	calls int
	news  int // of 8 calls so many are followed by News
	lean  int // how often of 8 what is set is True
}

func (m maker) truth(lean int) api.Truth { return truth(m.r.IntN(8) < lean) }

// call: one by chance that may be refused, too.
func (m maker) call(x *trial, c chance) {
	deep := len(x.p.open)
	switch at := m.r.IntN(16); {
	case at < 3:
		x.enter(x.next(api.Open, pick(m, someNames())))
	case at < 5:
		x.enter(x.next(api.Text, ""))
	case at < 8:
		m.leave(x, c)
	case at < 9:
		x.leave()
	case len(x.p.own) > 0 && at < 15:
		x.set(m.r.IntN(deep), pick(m, x.p.own), m.truth(c.lean))
	default:
		x.set(m.r.IntN(deep+2)-1, m.r.IntN(len(x.p.n.Preds)+2)-1, api.Truth(m.r.IntN(5)-1))
	}
	if m.r.IntN(8) < c.news {
		x.news()
	}
}

// leave: an element, of which what isn't set is set first.
func (m maker) leave(x *trial, c chance) {
	if depth := x.p.elements(); depth > 0 {
		x.setAll(depth, func() api.Truth { return m.truth(c.lean) })
		x.leave()
	}
}

// TestByChance: calls by chance, with News behind each and only now and then, leaning to False and to True.
func TestByChance(t *testing.T) {
	t.Parallel()
	var came [3]int
	for seed := range uint64(6000) {
		m := newMaker(seed)
		x := newTrial(t, netOf(t, m.path(5)))
		c := chance{calls: 10 + m.r.IntN(50), news: pick(m, []int{0, 1, 4, 8}), lean: 2 + m.r.IntN(6)}
		for range c.calls {
			m.call(x, c)
		}
		x.news()
		for v := range came {
			came[v] += x.came[v]
		}
	}
	needCame(t, came, 1500)
}

// TestQueriesByChance: queries that are nested more, over documents; what is set, and when, by chance.
func TestQueriesByChance(t *testing.T) {
	t.Parallel()
	var came [3]int
	for i, q := range queries() {
		for k, d := range documents() {
			for seed := range uint64(12) {
				m := newMaker(seed<<20 + uint64(i)<<10 + uint64(k))
				x := newTrial(t, netOf(t, query(t, q)))
				m.walk(x, eventsOf(t, d), chance{news: []int{0, 2, 8}[seed%3], lean: 3 + m.r.IntN(4)})
				for v := range came {
					came[v] += x.came[v]
				}
			}
		}
	}
	needCame(t, came, 500)
}

// walk: a document's events; some is set behind each.
func (m maker) walk(x *trial, events []api.Event, c chance) {
	for _, e := range events {
		if e.Kind == api.Close {
			m.leave(x, c)
		} else {
			x.enter(e)
		}
		for len(x.p.own) > 0 && m.r.IntN(3) == 0 {
			x.set(m.r.IntN(len(x.p.open)), pick(m, x.p.own), m.truth(c.lean))
		}
		if m.r.IntN(8) < c.news {
			x.news()
		}
	}
	x.setAll(0, func() api.Truth { return m.truth(c.lean) })
	x.news()
}

// TestAllPairs: all paths of two steps, each with a predicate and without one, over small documents, with what is set late, and early.
func TestAllPairs(t *testing.T) {
	t.Parallel()
	bare := bareSteps("a")
	docs := [][]api.Event{eventsOf(t, "<a>t<a/></a>"), eventsOf(t, "<b><a><a>t</a></a></b>"), eventsOf(t, "<a><b><b/>t</b></a>")}
	var came [3]int
	for _, one := range bare {
		for _, two := range bare {
			for at := range 4 {
				n := netOf(t, steps(asked(one, at&1), asked(two, at>>1)))
				for i, events := range docs {
					for seed := range uint64(3) {
						m := newMaker(seed<<8 + uint64(i))
						x := newTrial(t, n)
						m.walk(x, events, chance{news: 4, lean: 5})
						for v := range came {
							came[v] += x.came[v]
						}
					}
				}
			}
		}
	}
	needCame(t, came, 300)
}

// place is where something is set.
type place struct{ depth, pred int }

// TestEveryOrder: what is set in every order, at every depth, of each value; News behind each call.
func TestEveryOrder(t *testing.T) {
	t.Parallel()
	var came [3]int
	for _, q := range []string{"//a[x]//a[y]", "self::node()[x]//a[y]", "//self::node()[x]/a[y]", "descendant-or-self::node()[x]/descendant-or-self::a[y]", "//a[x]/self::*[y]", "//node()[x][y]", "a[x]/a[y]"} {
		n := netOf(t, query(t, q))
		list := []place{{0, 0}, {0, 1}, {1, 0}, {1, 1}, {2, 0}, {2, 1}}
		permute(list, 0, func() {
			for values := range 1 << len(list) {
				if (values*7+list[0].depth*3+list[1].depth)%11 != 0 { // each order with some of the values, each of the values with some of the orders
					continue
				}
				x := newTrial(t, n)
				x.enter(x.next(api.Open, "a"))
				x.enter(x.next(api.Open, "a"))
				x.news()
				for i, at := range list {
					x.set(at.depth, at.pred, truth(values>>i&1 == 1))
					x.news()
				}
				x.leave()
				x.leave()
				x.news()
				for v := range came {
					came[v] += x.came[v]
				}
			}
		})
	}
	needCame(t, came, 1000)
}

// permute: the list in every order.
func permute(list []place, from int, each func()) {
	if from == len(list) {
		each()
		return
	}
	for i := from; i < len(list); i++ {
		list[from], list[i] = list[i], list[from]
		permute(list, from+1, each)
		list[from], list[i] = list[i], list[from]
	}
}

// TestLeftInEveryOrder: nodes that were left at several depths, and what is above them set in every order.
func TestLeftInEveryOrder(t *testing.T) {
	t.Parallel()
	var came [3]int
	for _, q := range []string{"//a[x]//a[y]//*", "//a[x]/a[y]/*//node()", "//a[x]/*//*/*", "self::node()[x]//a[y]/descendant-or-self::node()", "//a[x]/descendant-or-self::*[y]/descendant-or-self::*", "//*[x]/self::a[y]//text()"} {
		n := netOf(t, query(t, q))
		list := []place{{0, 0}, {0, 1}, {1, 0}, {1, 1}, {2, 0}, {2, 1}}
		permute(list, 0, func() {
			for values := range 1 << len(list) {
				if (values*5+list[0].depth*3+list[1].depth)%17 != 0 {
					continue
				}
				x := newTrial(t, n)
				m := newMaker(uint64(values))
				x.enter(x.next(api.Open, "a"))
				x.enter(x.next(api.Open, "a"))
				m.walk(x, []api.Event{{Number: 2, Name: "a"}, {Number: 3, Name: "b"}, {Kind: api.Text, Number: 4}, {Kind: api.Close}, {Kind: api.Text, Number: 5}, {Kind: api.Close}, {Number: 6, Name: "a"}, {Kind: api.Close}}[:8-8*(values&1)], chance{lean: 6})
				for i, at := range list {
					x.set(at.depth, at.pred, truth(values>>i&1 == 1))
					x.news()
				}
				for v := range came {
					came[v] += x.came[v]
				}
			}
		})
	}
	needCame(t, came, 1000)
}

// TestAgainstLayer15: with all set that layer 18 knows, what is known of all nodes is what layer 15 finds anew of all events.
func TestAgainstLayer15(t *testing.T) {
	t.Parallel()
	came := 0
	for _, q := range queries() {
		for _, d := range documents() {
			came += needAsHalf(t, q, eventsOf(t, d))
		}
	}
	if came < 500 {
		t.Errorf("only %d verdicts came", came)
	}
}

func needAsHalf(t *testing.T, q string, events []api.Event) int {
	t.Helper()
	p := query(t, q)
	n := netOf(t, p)
	h, _ := hopes.New(n)
	w := started(t, n)
	now, came := map[int]api.Truth{}, 0
	for i, e := range events {
		h.Take(e)
		if e.Kind != api.Close {
			w.Enter(e)
		}
		setKnown(t, w, h, n)
		if e.Kind == api.Close {
			if got := w.Leave(); got != api.OK {
				t.Fatalf("P19.4: %s, event %d: %d", q, i, got)
			}
		}
		for _, v := range w.News() {
			now[v.Number] = v.Truth
			came++
		}
		want, e := half.Verdicts(events[:i+1], p)
		if e != api.OK {
			t.Fatalf("layer 15: %s: %d", q, e)
		}
		needSame(t, q, events[:i+1], now, want)
	}
	return came
}

// setKnown: what is known of the own predicates at all depths.
func setKnown(t *testing.T, w *ways.Ways, h *hopes.Hopes, n api.Net) {
	t.Helper()
	for depth := 0; ; depth++ {
		if _, e := h.Truth(depth, 0); e != api.OK {
			return
		}
		for _, r := range n.Rows[:n.Main] {
			for _, pred := range r.Preds {
				v, _ := h.Truth(depth, pred)
				if v == api.Unknown {
					continue
				}
				if got := w.Set(depth, pred, v); got != api.OK {
					t.Fatalf("P19.3: %v: pred %d at %d: %d", shownNet(n), pred, depth, got)
				}
			}
		}
	}
}

// needSame: nodes that aren't among the verdicts are False.
func needSame(t *testing.T, q string, events []api.Event, now map[int]api.Truth, want []api.Verdict) {
	t.Helper()
	all := map[int]api.Truth{}
	for _, v := range want {
		all[v.Number] = v.Truth
	}
	for _, e := range events {
		if e.Kind != api.Close && now[e.Number] != all[e.Number] {
			t.Fatalf("P19.5: %s behind %d events: node %d: %s, layer 15: %s", q, len(events), e.Number, letter(now[e.Number]), letter(all[e.Number]))
		}
	}
}

// TestByTurns: two of them, of two nets and of one, taken by turns.
func TestByTurns(t *testing.T) {
	t.Parallel()
	for seed := range uint64(500) {
		m := newMaker(seed + 1<<20)
		one, two := netOf(t, m.path(4)), netOf(t, m.path(4))
		if seed%2 == 0 {
			two = one
		}
		x, y := newTrial(t, one), newTrial(t, two)
		for range 40 {
			m.call(x, chance{news: 3, lean: 4})
			m.call(y, chance{news: 5, lean: 6})
		}
		x.news()
		y.news()
	}
}

// TestNewsTwice: P19.5: of each node at most two verdicts, the first of two Unknown, and with nothing new none.
func TestNewsTwice(t *testing.T) {
	t.Parallel()
	for seed := range uint64(1000) {
		m := newMaker(seed + 1<<21)
		x := newTrial(t, netOf(t, m.path(4)))
		got := map[int][]api.Truth{}
		for range 60 {
			m.call(x, chance{lean: 5})
			list := x.w.News()
			x.p.news()
			if again := x.w.News(); len(again) != 0 {
				t.Fatalf("P19.5: asked again: %s", said(again))
			}
			if !slices.IsSortedFunc(list, func(a, b api.Verdict) int { return a.Number - b.Number }) {
				t.Fatalf("P19.5: %s", said(list))
			}
			for _, v := range list {
				got[v.Number] = append(got[v.Number], v.Truth)
			}
		}
		for number, list := range got {
			if len(list) > 2 || len(list) == 2 && (list[0] != api.Unknown || list[1] == api.Unknown) || len(list) == 1 && list[0] == api.False {
				t.Fatalf("P19.5: node %d: %v", number, list)
			}
		}
	}
}
