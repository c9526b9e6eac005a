package kleene

import (
	"cmp"
	"slices"

	"gimlet/api"
)

// Simplify: the one simple formula, with the variables that are known put in. ErrShape.
func Simplify(f api.Formula, values []api.Truth) (api.Formula, api.Errno) {
	if e := checkWith(f, values); e != api.OK {
		return api.Formula{}, e
	}
	return ordered(loose(f, values)), api.OK
}

// loose: the simple formula, but that the arguments of the outermost AndOf or OrOf (itself, or right in a NotOf) stand in any order, and some of them several times, though never all of them are equal. So those that go up from AndOf to AndOf, or from OrOf to OrOf, are put in order but once, behind the last one.
func loose(f api.Formula, values []api.Truth) api.Formula {
	switch f.Op {
	case api.Const:
		return constant(f.Value)
	case api.Var:
		return variable(f.Var, valueOf(f.Var, values))
	case api.NotOf:
		return denied(loose(f.Args[0], values))
	case api.AndOf:
		return join{op: api.AndOf, idle: api.True, settles: api.False}.of(f.Args, values)
	}
	return join{op: api.OrOf, idle: api.False, settles: api.True}.of(f.Args, values)
}

func constant(t api.Truth) api.Formula { return api.Formula{Op: api.Const, Value: t} }

func variable(n int, t api.Truth) api.Formula {
	if t == api.Unknown {
		return api.Formula{Op: api.Var, Var: n}
	}
	return constant(t)
}

func denied(f api.Formula) api.Formula {
	switch f.Op {
	case api.Const:
		return constant(Not(f.Value))
	case api.NotOf:
		return f.Args[0]
	}
	return api.Formula{Op: api.NotOf, Args: []api.Formula{f}}
}

// join is what AndOf and OrOf differ in.
type join struct {
	op      api.FormulaOp
	idle    api.Truth // the Const that changes nothing, and what there is without arguments
	settles api.Truth // the Const beside which nothing else matters
}

// of: the loose form of a join of these.
func (j join) of(list []api.Formula, values []api.Truth) api.Formula {
	var parts []api.Formula
	for _, f := range list {
		p := loose(f, values)
		switch {
		case p.Op == api.Const && p.Value == j.settles:
			return p
		case p.Op != api.Const || p.Value != j.idle:
			parts = append(parts, p)
		}
	}
	switch len(parts) {
	case 0:
		return constant(j.idle)
	case 1:
		return parts[0]
	}
	return j.joined(parts)
}

// joined: the loose form of a join of several loose parts, none of which is idle or settles it.
func (j join) joined(parts []api.Formula) api.Formula {
	args := j.spread(parts)
	isSame := func(p api.Formula) bool { return p.Op == j.op }
	differs := func(a api.Formula) bool { return compared(a, args[0]) != 0 }
	// A part of the same kind has arguments that differ; they need not be looked at.
	if slices.ContainsFunc(parts, isSame) || slices.ContainsFunc(args[1:], differs) {
		return api.Formula{Op: j.op, Args: args}
	}
	return args[0]
}

// spread: the parts, with the arguments of those of the same kind in their place. The fewer are put behind the more, whichever they are, so that none is moved often.
func (j join) spread(parts []api.Formula) []api.Formula {
	var args []api.Formula
	for _, p := range parts {
		if p.Op != j.op {
			args = append(args, ordered(p))
			continue
		}
		more := p.Args
		if len(more) > len(args) {
			args, more = more, args
		}
		args = append(args, more...)
	}
	return args
}

// ordered: of a loose form the simple formula.
func ordered(f api.Formula) api.Formula {
	switch f.Op {
	case api.NotOf:
		f.Args[0] = ordered(f.Args[0])
	case api.AndOf, api.OrOf:
		slices.SortFunc(f.Args, compared)
		f.Args = slices.CompactFunc(f.Args, isEqual)
	}
	return f
}

// compared: by the order of formulas.
func compared(a, b api.Formula) int {
	// Arguments are looked at only where all else is equal: what differs at once should cost nothing.
	if c := cmp.Or(cmp.Compare(a.Op, b.Op), cmp.Compare(a.Value, b.Value), cmp.Compare(a.Var, b.Var)); c != 0 {
		return c
	}
	return slices.CompareFunc(a.Args, b.Args, compared)
}

func isEqual(a, b api.Formula) bool { return compared(a, b) == 0 }
