package half

import (
	"strings"

	"gimlet/api"
	"gimlet/tree"
)

// areBeginning: they are a beginning of a document's events just where they are those of a document as soon as all that is open is closed.
func areBeginning(events []api.Event) bool {
	if len(events) == 0 {
		return true
	}
	_, e := tree.Build(closed(events))
	return e == api.OK
}

// closed: the events, and behind them the Closes of what they leave open.
func closed(events []api.Event) []api.Event {
	list := make([]api.Event, len(events))
	copy(list, events)
	var open []api.Event
	for _, e := range events {
		last := len(open) - 1
		if e.Kind == api.Open {
			open = append(open, e)
		} else if e.Kind == api.Close && last >= 0 {
			open = open[:last]
		}
	}
	for i := len(open) - 1; i >= 0; i-- {
		e := open[i]
		list = append(list, api.Event{Kind: api.Close, Number: e.Number, Depth: e.Depth, Name: e.Name})
	}
	return list
}

// ground is all that a beginning's events have told.
type ground struct {
	text  string // all texts
	spots []spot // the root above, and behind it the nodes by their numbers
}

// spot is a node. The root above is neither an element nor a text.
type spot struct {
	element, text bool
	open          bool // more may come in it
	name          string
	attrs         []api.Attr
	parent        int // among the spots; that of the root above is never asked for
	from, to      int // what has come of its string value, in the ground's text
}

// groundOf: of events that are a beginning's.
func groundOf(events []api.Event) *ground {
	var text strings.Builder
	spots := []spot{{open: true}}
	last := 0 // the spot that was opened last of those that are open
	for _, e := range events {
		from := text.Len()
		switch e.Kind {
		case api.Open:
			spots = append(spots, spot{element: true, open: true, name: e.Name, attrs: e.Attrs, parent: last, from: from})
			last = len(spots) - 1
		case api.Text:
			text.WriteString(e.Text)
			spots = append(spots, spot{text: true, parent: last, from: from, to: text.Len()})
		case api.Close:
			spots[last].open, spots[last].to = false, from
			last = spots[last].parent
			spots[0].open = last > 0 // the root above is closed by the root element's Close
		}
	}
	spots[0].to = text.Len()
	for ; last > 0; last = spots[last].parent {
		spots[last].to = text.Len()
	}
	return &ground{text: text.String(), spots: spots}
}

// nodes: how many have been told.
func (g *ground) nodes() int { return len(g.spots) - 1 }

// came: what has come of the spot's string value.
func (g *ground) came(s *spot) string { return g.text[s.from:s.to] }

func (s *spot) meets(test api.Test, name string) bool {
	switch test {
	case api.Named:
		return s.element && s.name == name
	case api.AnyName:
		return s.element
	case api.TextNode:
		return s.text
	}
	return true
}
