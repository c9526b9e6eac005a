package frag

import "gimlet/api"

// path: the normal form of a path.
func (t turn) path(p api.Path) api.Path {
	var steps []api.Step
	for _, s := range p.Steps {
		s.Where = both().gathered(s.Where, t)
		steps = put(steps, s)
	}
	if len(steps) == 0 {
		steps = append(steps, here())
	}
	// Only here, where nothing is added to them any more: how many they are mattered to no step, but whether there are any.
	for i, s := range steps {
		steps[i].Where = both().settled(s.Where)
	}
	return api.Path{Steps: steps}
}

// put: a step behind those that stand, or together with the last of them.
func put(steps []api.Step, s api.Step) []api.Step {
	if isBare(s, api.Self) {
		return steps
	}
	if len(steps) == 0 {
		return append(steps, s)
	}
	last := &steps[len(steps)-1]
	switch {
	case s.Axis == api.Self && narrows(s, *last):
		last.Test, last.Name = s.Test, s.Name
		last.Where = append(last.Where, s.Where...)
	case s.Axis == api.Self && narrows(*last, s):
		last.Where = append(last.Where, s.Where...)
	case s.Axis != api.Self && isBare(*last, api.OrSelf):
		*last = inPlace(s)
	default:
		return append(steps, s)
	}
	return steps
}

// isBare: axis::node() without predicates.
func isBare(s api.Step, axis api.Axis) bool {
	return s.Axis == axis && s.Test == api.AnyNode && !hasWhere(s)
}

// narrows: the one's test takes nothing that the other's doesn't take.
func narrows(one, other api.Step) bool {
	switch other.Test {
	case api.AnyNode:
		return true
	case api.AnyName:
		return one.Test == api.AnyName || one.Test == api.Named
	}
	return one.Test == other.Test && one.Name == other.Name
}

// inPlace: what stands for descendant-or-self::node() and the step behind it.
func inPlace(s api.Step) api.Step {
	if s.Axis == api.Child {
		s.Axis = api.Descendant
	}
	return s
}
