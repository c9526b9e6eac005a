package hopes

import (
	"gimlet/api"
	"gimlet/chars"
)

// isNext: the events that were taken, and e behind them, are the events of a beginning, by layer 9's words.
func (s *stack) isNext(e api.Event) bool {
	if s.nodes > 0 && s.open == 0 {
		return false // the root element is closed, and nothing may follow
	}
	last := s.levels[len(s.levels)-1]
	switch e.Kind {
	case api.Open:
		return s.isNew(e) && e.Text == "" && chars.Name(e.Name) && areAttrs(e.Attrs)
	case api.Text:
		return s.isNew(e) && s.open > 0 && !last.text && isText(e)
	case api.Close:
		return s.open > 0 && e.Depth == s.open && s.levels[s.open].isClosedBy(e)
	}
	return false
}

// isNew: the node that comes next has this number and this depth.
func (s *stack) isNew(e api.Event) bool {
	return e.Number == s.nodes && e.Depth == s.open+1
}

func isText(e api.Event) bool {
	return e.Name == "" && len(e.Attrs) == 0 && e.Text != "" && chars.Texts(e.Text)
}

func (l *level) isClosedBy(e api.Event) bool {
	return e.Number == l.number && e.Name == l.name && len(e.Attrs) == 0 && e.Text == ""
}

// areAttrs: names are characters all through, so that their order by bytes is that by characters.
func areAttrs(attrs []api.Attr) bool {
	for i, a := range attrs {
		if !chars.Name(a.Name) || !chars.Texts(a.Value) {
			return false
		}
		if i > 0 && a.Name <= attrs[i-1].Name {
			return false
		}
	}
	return true
}
