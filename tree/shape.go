package tree

import (
	"gimlet/api"
	"gimlet/chars"
)

// areDocument: they are the events of a document, by the chapter's words.
func areDocument(events []api.Event) bool {
	var open []api.Event // what opened the elements that are open
	nodes := 0
	for i, e := range events {
		last := len(open) - 1
		if last < 0 && i > 0 {
			return false // node 0 is closed, and nothing may follow
		}
		switch e.Kind {
		case api.Open:
			if !isNext(e, nodes, len(open)) || !isOpen(e) {
				return false
			}
			open = append(open, e)
			nodes++
		case api.Text:
			if last < 0 || events[i-1].Kind == api.Text || !isNext(e, nodes, len(open)) || !isText(e) {
				return false
			}
			nodes++
		case api.Close:
			if last < 0 || !closes(e, open[last]) {
				return false
			}
			open = open[:last]
		default:
			return false
		}
	}
	return nodes > 0 && len(open) == 0
}

// isNext: an Open or a Text with its number and its depth, behind so many nodes, in so many open elements.
func isNext(e api.Event, nodes, open int) bool {
	return e.Number == nodes && e.Depth == open+1
}

func isOpen(e api.Event) bool {
	return e.Text == "" && chars.Name(e.Name) && areAttrs(e.Attrs)
}

func isText(e api.Event) bool {
	return e.Name == "" && len(e.Attrs) == 0 && e.Text != "" && chars.Texts(e.Text)
}

// closes: a Close of the element that this Open has opened.
func closes(e, open api.Event) bool {
	return e.Number == open.Number && e.Depth == open.Depth && e.Name == open.Name && len(e.Attrs) == 0 && e.Text == ""
}

// areAttrs: names are characters all through, so that their order by bytes is that by characters.
func areAttrs(attrs []api.Attr) bool {
	for i, a := range attrs {
		if !chars.Name(a.Name) || !chars.Texts(a.Value) {
			return false
		}
		if i > 0 && a.Name <= attrs[i-1].Name {
			return false
		}
	}
	return true
}
