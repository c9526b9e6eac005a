package hopes

import (
	"slices"
	"strings"

	"gimlet/api"
	"gimlet/words"
)

// stack is all that a Hopes keeps of the events that it has taken.
type stack struct {
	net    api.Net
	trails []*trail
	nodes  int      // how many have been told
	came   int      // how many characters of all texts
	open   int      // how many elements are open
	levels []*level // the open nodes by their depths, and behind them the text or the closed element that was told last
}

func newStack(n api.Net) *stack {
	s := &stack{net: n}
	for number, pred := range n.Preds {
		if pred.Op == api.Some && pred.Attr == "" && pred.Compare != api.Exists {
			s.trails = append(s.trails, newTrail(number, pred))
		}
	}
	s.enter(&level{}, nil) // the root above
	s.settle(0)
	return s
}

// taker: what takes an event of that kind, which is the next one.
func (s *stack) taker(kind api.EventKind) func(api.Event) {
	switch kind {
	case api.Open:
		return s.takeOpen
	case api.Text:
		return s.takeText
	}
	return s.takeClose
}

func (s *stack) takeOpen(e api.Event) {
	s.enter(&level{number: e.Number, name: strings.Clone(e.Name), element: true}, e.Attrs)
	s.nodes++
	s.open++
	s.settle(s.open)
}

// takeText: a text is a node that is left as soon as its characters have come.
func (s *stack) takeText(e api.Event) {
	s.enter(&level{number: e.Number, text: true}, nil)
	s.nodes++
	news := s.hear(e.Text)
	depth := s.open + 1
	s.leave(depth)
	s.settle(append(news, depth)...)
}

func (s *stack) takeClose(api.Event) {
	depth := s.open
	s.leave(depth)
	s.open--
	if s.open > 0 {
		s.settle(depth)
		return
	}
	s.leave(0) // the root above is closed together with the root element
	s.settle(depth, 0)
}

// forget: the text or the closed element that was told last.
func (s *stack) forget() {
	s.levels = slices.Delete(s.levels, s.open+1, len(s.levels))
}

// enter: the node of that level comes behind the others, and is open.
func (s *stack) enter(l *level, attrs []api.Attr) {
	depth := len(s.levels)
	l.open, l.from = true, s.came
	s.lay(l, attrs)
	for _, t := range s.trails {
		l.preds[t.pred].compared = t.ahead
		if t.ahead == api.Unknown {
			t.unsure = append(t.unsure, depth)
		}
	}
	s.levels = append(s.levels, l)
}

// leave: the node of that depth, the last one that isn't left, is closed: all of its text has come.
func (s *stack) leave(depth int) {
	l := s.levels[depth]
	l.open = false
	for _, t := range s.trails {
		if last := len(t.unsure) - 1; last >= 0 && t.unsure[last] == depth {
			t.unsure = t.unsure[:last]
			l.preds[t.pred].compared = t.whole(s.came - l.from)
		}
	}
}

// hear: more of the open nodes' texts comes. It answers the depths at which a comparison has become known by this.
func (s *stack) hear(text string) []int {
	ahead := s.came
	s.came += words.Length(text)
	var news []int
	for _, t := range s.trails {
		ends := t.walk(ahead, text)
		t.sift(func(depth int) bool {
			l := s.levels[depth]
			v := t.coming(l.from, s.came, ends)
			if v == api.Unknown {
				return false
			}
			l.preds[t.pred].compared = v
			news = append(news, depth)
			return true
		})
	}
	return news
}

// entries: of each level itself, its rows and its predicates, and of the comparisons that aren't known.
func (s *stack) entries() int {
	n := len(s.levels) * (1 + len(s.net.Rows) - s.net.Main + len(s.net.Preds))
	for _, t := range s.trails {
		n += len(t.unsure)
	}
	return n
}
