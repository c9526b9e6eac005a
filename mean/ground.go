package mean

import (
	"gimlet/api"
	"gimlet/tree"
)

// ground is all that a call can come to: one node and the nodes in it, as every axis leads down.
type ground struct {
	first int    // the node's number; the others follow without a gap
	text  string // its string value, of which those of the others are pieces
	spots []spot
}

// spot is a node. The root above is neither an element nor a text.
type spot struct {
	element, text bool
	name          string
	attrs         []api.Attr
	parent        int // among the spots; the first one's is never asked for
	from, to      int // its string value in the ground's text
}

// set says of each spot whether it is in it. Paths and expressions are found for all spots at once: so a call takes some steps for each of the nodes and each part of the query, however these are nested.
type set []bool

func groundOf(t *tree.Tree, n int) *ground {
	g := &ground{first: n}
	g.text, _ = t.Value(n)
	at := 0
	for m := range t.Along(n, api.OrSelf) {
		s := spotOf(t, m)
		s.parent -= n
		s.from = at
		s.to += at
		at = s.to
		g.spots = append(g.spots, s)
	}
	g.stretch()
	return g
}

// spotOf: with its own text's length as its end, and its parent's number.
func spotOf(t *tree.Tree, n int) spot {
	event, e := t.Node(n)
	if e != api.OK {
		return spot{} // the root above: no event tells it
	}
	parent, _ := t.Parent(n)
	return spot{
		element: event.Kind == api.Open,
		text:    event.Kind == api.Text,
		name:    event.Name,
		attrs:   event.Attrs,
		parent:  parent,
		to:      len(event.Text),
	}
}

// stretch: each spot's text ends where that of the last one in it does.
func (g *ground) stretch() {
	for i := len(g.spots) - 1; i > 0; i-- {
		in := &g.spots[g.spots[i].parent]
		in.to = max(in.to, g.spots[i].to)
	}
}

// numbers: of the nodes that are in the set, rising.
func (g *ground) numbers(s set) []int {
	var list []int
	for i, in := range s {
		if in {
			list = append(list, g.first+i)
		}
	}
	return list
}

// along: where the axis leads from one of these. Parents stand ahead of what is in them.
func (g *ground) along(a api.Axis, from set) set {
	out := make(set, len(from))
	if a == api.Self || a == api.OrSelf {
		copy(out, from)
	}
	if a == api.Self {
		return out
	}
	for i := 1; i < len(out); i++ {
		parent := g.spots[i].parent
		if from[parent] || a != api.Child && out[parent] {
			out[i] = true
		}
	}
	return out
}

// back: from where the axis leads to one of these.
func (g *ground) back(a api.Axis, to set) set {
	out := make(set, len(to))
	if a == api.Self || a == api.OrSelf {
		copy(out, to)
	}
	if a == api.Self {
		return out
	}
	for i := len(out) - 1; i > 0; i-- {
		if to[i] || a != api.Child && out[i] {
			out[g.spots[i].parent] = true
		}
	}
	return out
}
