package frag

import (
	"slices"

	"gimlet/api"
	"gimlet/ask"
)

// turn makes an expression's normal form, in new memory.
type turn func(api.Expr) api.Expr

// newTurn: the turn of all kinds. The turns of the single kinds reach the expressions within by it.
func newTurn() turn {
	var kinds [4]turn
	whole := func(x api.Expr) api.Expr { return kinds[x.Op](x) }
	kinds[api.And] = joining(both(), whole)
	kinds[api.Or] = joining(either(), whole)
	kinds[api.Not] = denying(whole)
	kinds[api.Some] = asking(whole)
	return whole
}

// join is what And and Or differ in.
type join struct {
	op      api.Op
	idle    func(api.Expr) bool // a part that changes nothing
	settles func(api.Expr) bool // a part beside which no other one matters
	empty   func() api.Expr     // what it is without parts
}

func both() join { return join{api.And, isTrue, isFalse, trueOne} }

func either() join { return join{api.Or, isFalse, isTrue, falseOne} }

func joining(j join, inner turn) turn {
	return func(x api.Expr) api.Expr {
		parts := j.settled(j.gathered(x.Args, inner))
		switch len(parts) {
		case 0:
			return j.empty()
		case 1:
			return parts[0]
		}
		return api.Expr{Op: j.op, Args: parts}
	}
}

func denying(inner turn) turn {
	return func(x api.Expr) api.Expr {
		n := inner(x.Args[0])
		if n.Op == api.Not {
			return n.Args[0]
		}
		return api.Expr{Op: api.Not, Args: []api.Expr{n}}
	}
}

func asking(inner turn) turn {
	return func(x api.Expr) api.Expr {
		x.Path = inner.path(x.Path)
		x.Args = nil // an empty list may have spare room that isn't ours
		if x.Text == "" && (x.Compare == api.Begins || x.Compare == api.Ends || x.Compare == api.Contains) {
			x.Compare = api.Exists
		}
		return x
	}
}

// gathered: the normal forms, but the idle ones, with the parts of those of the same kind in their place.
func (j join) gathered(list []api.Expr, inner turn) []api.Expr {
	var out []api.Expr
	for _, x := range list {
		n := inner(x)
		switch {
		case n.Op == j.op:
			out = append(out, n.Args...)
		case !j.idle(n):
			out = append(out, n)
		}
	}
	return out
}

// settled: each once, or the one that settles it alone.
func (j join) settled(list []api.Expr) []api.Expr {
	if at := slices.IndexFunc(list, j.settles); at >= 0 {
		return []api.Expr{list[at]}
	}
	return distinct(list)
}

// distinct: without those that are alike an earlier one. Alike ones are found by what layer 11 prints of them, so that long lists need not be gone through for each of their members.
func distinct(list []api.Expr) []api.Expr {
	if len(list) < 2 {
		return list
	}
	seen := make(map[string]struct{}, len(list))
	var out []api.Expr
	for _, x := range list {
		text, _ := ask.Print(api.Path{Steps: []api.Step{here(x)}})
		if _, isThere := seen[text]; !isThere {
			seen[text] = struct{}{}
			out = append(out, x)
		}
	}
	return out
}

func here(where ...api.Expr) api.Step {
	return api.Step{Axis: api.Self, Test: api.AnyNode, Where: where}
}

func trueOne() api.Expr {
	return api.Expr{Op: api.Some, Path: api.Path{Steps: []api.Step{here()}}}
}

func falseOne() api.Expr {
	return api.Expr{Op: api.Not, Args: []api.Expr{trueOne()}}
}

func isTrue(x api.Expr) bool {
	return x.Op == api.Some && x.Attr == "" && x.Compare == api.Exists && len(x.Path.Steps) == 1 && isBare(x.Path.Steps[0], api.Self)
}

func isFalse(x api.Expr) bool { return x.Op == api.Not && isTrue(x.Args[0]) }
