package half

import (
	"slices"

	"gimlet/api"
	"gimlet/kleene"
)

// What comes in here has passed layer 11's Check, so that kinds are all of the named ones, and brackets are not nested deep.

// table says of each spot what is known of something there. Paths and expressions are found for all spots at once: so a call takes some steps for each node and each part of the query, however these are nested.
type table []api.Truth

// verdicts: P15.2.
func (g *ground) verdicts(p api.Path) []api.Verdict {
	var list []api.Verdict
	for n, t := range g.reached(p)[1:] {
		if t != api.False {
			list = append(list, api.Verdict{Number: n, Truth: t})
		}
	}
	return list
}

// reached: what the query's last step leads to each spot with.
func (g *ground) reached(p api.Path) table {
	out := make(table, len(g.spots))
	out[0] = api.True
	for _, step := range p.Steps {
		out = g.along(step.Axis, out)
		g.keepMeeting(out, step)
		if out.isFalse() {
			break // the steps behind lead nowhere, however many there are
		}
	}
	return out
}

// along: what the axis leads to each spot with, from what is known of all of them. Parents stand ahead of what is in them.
func (g *ground) along(a api.Axis, from table) table {
	out := onlySelf(a, from)
	if a == api.Self {
		return out
	}
	for i := 1; i < len(out); i++ {
		parent := g.spots[i].parent
		out[i] = kleene.Or(out[i], from[parent])
		if a != api.Child {
			out[i] = kleene.Or(out[i], out[parent])
		}
	}
	return out
}

// back: what is known of there being one, among those to which the axis leads from each spot, of which to tells it. Where a spot is open another one may come.
func (g *ground) back(a api.Axis, to table) table {
	out := onlySelf(a, to)
	if a == api.Self {
		return out
	}
	for i := len(out) - 1; i >= 0; i-- {
		if g.spots[i].open {
			out[i] = kleene.Or(out[i], api.Unknown)
		}
		if i == 0 {
			break
		}
		parent := g.spots[i].parent
		out[parent] = kleene.Or(out[parent], to[i])
		if a != api.Child {
			out[parent] = kleene.Or(out[parent], out[i])
		}
	}
	return out
}

// onlySelf: a new table with as much of t as an axis takes over from each spot to itself.
func onlySelf(a api.Axis, t table) table {
	out := make(table, len(t))
	if a == api.Self || a == api.OrSelf {
		copy(out, t)
	}
	return out
}

// keepMeeting: the and of what the table says, of the step's test and of its predicates.
func (g *ground) keepMeeting(t table, step api.Step) {
	for i := range t {
		if !g.spots[i].meets(step.Test, step.Name) {
			t[i] = api.False
		}
	}
	for _, x := range step.Where {
		t.and(g.known(x))
	}
}

// known: what is known of the expression at each spot.
func (g *ground) known(x api.Expr) table {
	if x.Op == api.Some {
		return g.leading(x)
	}
	out := g.known(x.Args[0])
	for _, part := range x.Args[1:] {
		if x.Op == api.And {
			out.and(g.known(part))
		} else {
			out.or(g.known(part))
		}
	}
	if x.Op == api.Not {
		out.turn()
	}
	return out
}

// leading: what is known of a Some at each spot. It is found from the path's end on, from what is known of the comparison there.
func (g *ground) leading(x api.Expr) table {
	out := make(table, len(g.spots))
	for i := range out {
		out[i] = api.True
	}
	last := len(x.Path.Steps) - 1
	for i, step := range slices.Backward(x.Path.Steps) {
		g.keepMeeting(out, step)
		if i == last {
			g.keepCompared(out, x)
		}
		out = g.back(step.Axis, out)
	}
	return out
}

// keepCompared: the and of what the table says and of the comparison. It isn't asked where all is said without it.
func (g *ground) keepCompared(t table, x api.Expr) {
	for i := range t {
		if t[i] != api.False {
			t[i] = kleene.And(t[i], g.compared(&g.spots[i], x))
		}
	}
}

func (t table) isFalse() bool {
	return !slices.ContainsFunc(t, func(v api.Truth) bool { return v != api.False })
}

func (t table) and(other table) {
	for i := range t {
		t[i] = kleene.And(t[i], other[i])
	}
}

func (t table) or(other table) {
	for i := range t {
		t[i] = kleene.Or(t[i], other[i])
	}
}

func (t table) turn() {
	for i := range t {
		t[i] = kleene.Not(t[i])
	}
}
