package mean

import (
	"slices"

	"gimlet/api"
)

// What comes in here has passed layer 11's Check, so that kinds are all of the named ones, and brackets are not nested deep.

// reached: where the path leads from the first spot.
func (g *ground) reached(p api.Path) set {
	out := make(set, len(g.spots))
	out[0] = true
	for _, step := range p.Steps {
		out = g.along(step.Axis, out)
		g.keepMeeting(out, step)
		if out.isEmpty() {
			break // the steps behind lead nowhere, however many there are
		}
	}
	return out
}

// keepMeeting: of these only those that meet the step's test, and of which all its predicates hold.
func (g *ground) keepMeeting(s set, step api.Step) {
	for i, in := range s {
		s[i] = in && g.spots[i].meets(step.Test, step.Name)
	}
	for _, x := range step.Where {
		s.keep(g.holding(x))
	}
}

func (s *spot) meets(test api.Test, name string) bool {
	switch test {
	case api.Named:
		return s.element && s.name == name
	case api.AnyName:
		return s.element
	case api.TextNode:
		return s.text
	}
	return true
}

// holding: the spots of which the expression holds.
func (g *ground) holding(x api.Expr) set {
	if x.Op == api.Some {
		return g.leading(x)
	}
	out := g.holding(x.Args[0])
	for _, part := range x.Args[1:] {
		if x.Op == api.And {
			out.keep(g.holding(part))
		} else {
			out.add(g.holding(part))
		}
	}
	if x.Op == api.Not {
		out.turn()
	}
	return out
}

// leading: the spots from which a Some's path leads to one of which its comparison holds. It is found from the path's end on.
func (g *ground) leading(x api.Expr) set {
	out := make(set, len(g.spots))
	out.turn()
	last := len(x.Path.Steps) - 1
	for i, step := range slices.Backward(x.Path.Steps) {
		g.keepMeeting(out, step)
		if i == last {
			g.keepCompared(out, x)
		}
		out = g.back(step.Axis, out)
		if out.isEmpty() {
			break
		}
	}
	return out
}

// keepCompared: of these only those of which the comparison holds.
func (g *ground) keepCompared(s set, x api.Expr) {
	for i, in := range s {
		s[i] = in && g.compares(&g.spots[i], x)
	}
}

func (g *ground) compares(s *spot, x api.Expr) bool {
	if x.Attr == "" {
		return holdsOf(g.text[s.from:s.to], x)
	}
	for _, a := range s.attrs {
		if a.Name == x.Attr {
			return holdsOf(a.Value, x)
		}
	}
	return false
}

func holdsOf(value string, x api.Expr) bool {
	holds, _ := Compared(value, x.Compare, x.Text, x.Number)
	return holds
}

func (s set) isEmpty() bool { return !slices.Contains(s, true) }

func (s set) keep(other set) {
	for i := range s {
		s[i] = s[i] && other[i]
	}
}

func (s set) add(other set) {
	for i := range s {
		s[i] = s[i] || other[i]
	}
}

func (s set) turn() {
	for i := range s {
		s[i] = !s[i]
	}
}
