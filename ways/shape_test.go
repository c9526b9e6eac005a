package ways_test

import (
	"math"
	"testing"

	"gimlet/api"
)

// What follows tries calls that are refused, at each place of a run; nothing is changed by them, which the calls behind them would tell.

func wrongNumbers() []int {
	return []int{math.MinInt, math.MinInt32, -2, -1, 0, 1, 2, 3, 4, 5, 6, 7, 8, 9, 255, 256, math.MaxInt32, math.MaxInt}
}

// tryWrong: all calls that are to be refused where the run is. It answers how many there were.
func tryWrong(x *trial) int {
	x.t.Helper()
	refused := 0
	last := -1
	if len(x.p.nodes) > 1 {
		last = x.p.nodes[len(x.p.nodes)-1].event.Number
	}
	for _, number := range wrongNumbers() {
		for _, kind := range []api.EventKind{math.MinInt, -1, api.Close, 3, 7, 256, math.MaxInt} {
			refused += tried(x.enter(api.Event{Kind: kind, Number: number, Name: "a"}))
		}
		if number <= last {
			refused += tried(x.enter(api.Event{Kind: api.Open, Number: number, Name: "a"})) + tried(x.enter(api.Event{Kind: api.Text, Number: number}))
		} else if x.p.elements() == 0 {
			refused += tried(x.enter(api.Event{Kind: api.Text, Number: number}))
		}
	}
	for _, depth := range wrongNumbers() {
		for _, pred := range wrongNumbers() {
			refused += tryWrongSets(x, depth, pred)
		}
	}
	if x.p.elements() == 0 || isUnset(x.p, x.p.elements()) {
		refused += tried(x.leave())
	}
	return refused
}

// tryWrongSets: each value that isn't taken there.
func tryWrongSets(x *trial, depth, pred int) int {
	x.t.Helper()
	refused := 0
	isThere := depth >= 0 && depth < len(x.p.open)
	for _, v := range []api.Truth{math.MinInt, -1, api.False, api.Unknown, api.True, 3, 256, math.MaxInt} {
		if isThere && v >= api.False && v <= api.True {
			was, isOwn := x.p.open[depth].set[pred]
			if isOwn && (was == api.Unknown || was == v) {
				continue
			}
		}
		refused += tried(x.set(depth, pred, v))
	}
	return refused
}

func tried(e api.Errno) int {
	if e == api.OK {
		return 0
	}
	return 1
}

func isUnset(p *plain, depth int) bool {
	for _, v := range p.open[depth].set {
		if v == api.Unknown {
			return true
		}
	}
	return false
}

// TestRefused: P19.2 to P19.4, P19.7.
func TestRefused(t *testing.T) {
	t.Parallel()
	for i, q := range []string{"//a[x]//b[not(y)][z]", "a", "self::node()[x and y]//text()[z]", "//*[x[y]][z]/node()"} {
		for k, d := range []string{"<a>t<b>u</b>v<a/></a>", "<a><b><a>t</a></b></a>", "<b/>"} {
			for _, news := range []int{0, 8} {
				m := newMaker(uint64(i<<8 + k))
				x := newTrial(t, netOf(t, query(t, q)))
				refused := tryWrong(x)
				for _, e := range eventsOf(t, d) {
					m.walk(x, []api.Event{e}, chance{news: news, lean: 5})
					refused += tryWrong(x)
				}
				x.news()
				if refused < 3000 {
					t.Errorf("%s over %s: only %d calls were refused", q, d, refused)
				}
			}
		}
	}
}

// TestTextStays: a Leave that is refused, and an Enter, don't leave the text that was entered last.
func TestTextStays(t *testing.T) {
	needPlayed(t, "//node()[x]", "+a ' - 2.0=U 2.0=T ? 1.0=T # - ?", "e6 [0U 1T] 5,0 [0T]")
	x := newTrial(t, netOf(t, query(t, "//node()[x]")))
	x.enter(api.Event{Number: 4, Name: "a"})
	x.enter(api.Event{Kind: api.Text, Number: 5})
	x.enter(api.Event{Kind: api.Text, Number: 5})
	x.enter(api.Event{Kind: api.Close, Number: 6})
	if e := x.set(2, 0, api.True); e != api.OK {
		t.Errorf("P19.7: Set of the text: %d", e)
	}
	if got := x.news(); got != "4U 5T" {
		t.Errorf("P19.5: %s", got)
	}
}

// TestRangeFirst: where several errors apply, it is ErrRange.
func TestRangeFirst(t *testing.T) {
	needPlayed(t, "a[x]", "+a 1.0=T 1.0=F 2.0=F 1.1=F", "e6 e2 e2")
	x := newTrial(t, netOf(t, query(t, "a[x]")))
	x.enter(x.next(api.Open, "a"))
	x.set(1, 0, api.True)
	if e := x.set(1, 0, 3); e != api.ErrRange {
		t.Errorf("P19.3: %d", e)
	}
}

// TestPartsAreNotOwn: predicates' parts, and those of the rows of their paths, are set by nobody: 0 the and, 1 x[y], 2 z, 3 the y in x.
func TestPartsAreNotOwn(t *testing.T) {
	needPlayed(t, "a[x[y] and z]", "+a 1.0=T 1.1=T 1.2=F 1.3=F ? -", "e2 e2 e2 [0T]")
	needPlayed(t, "a[not(x)][y]", "+a 1.0=T 1.1=T 1.2=T ? -", "e2 [0T]") // 0 the not, 1 x, 2 y
}
