package ways

import (
	"slices"

	"gimlet/api"
)

// group is of nodes of which nothing is known, and that hang on the same: what is known of them is the Or of what is known of the hooks. They hang on one open node: themselves, or, where they were left, the innermost one in which they were.
type group struct {
	hooks []int // rising
	fresh []int // the numbers of the nodes of which News hasn't answered anything
	told  []int // of those of which it has answered Unknown
}

// A hook is a value of a cell of the open node: way, or above.
func wayHook(row int) int { return 2 * row }

func aboveHook(row int) int { return 2*row + 1 }

func (l *level) value(hook int) known {
	c := &l.cells[hook/2]
	if hook == wayHook(hook/2) {
		return c.way
	}
	return c.above
}

func (l *level) valueOf(g *group) known {
	v := isFalse
	for _, hook := range g.hooks {
		v = or(v, l.value(hook))
	}
	return v
}

// touch: at that depth a value has changed, or something new hangs.
func (t *table) touch(depth int) {
	if l := t.levels[depth]; l.self == nil && len(l.groups) == 0 {
		return
	}
	if t.touched == nil {
		t.touched = map[int]struct{}{}
	}
	t.touched[depth] = struct{}{}
}

// sift: takes out of what hangs on the level what has become known.
func (t *table) sift(l *level) {
	if l.self != nil && t.isReady(l, l.self) {
		l.self = nil
	}
	for key, g := range l.groups {
		if t.isReady(l, g) {
			delete(l.groups, key)
		}
	}
}

// isReady: whether something is known of the group, which is to be told then. Of a node that is False from the first on nothing is told.
func (t *table) isReady(l *level, g *group) bool {
	v := l.valueOf(g)
	if v == isUnknown {
		return false
	}
	t.tell(g.told, api.Truth(v))
	if v == isTrue {
		t.tell(g.fresh, api.True)
	}
	return true
}

func (t *table) tell(numbers []int, v api.Truth) {
	for _, number := range numbers {
		t.ready = append(t.ready, api.Verdict{Number: number, Truth: v})
	}
}

// lift: the group, which hung on a node that was left, hangs on the node entered ahead of it that is open.
func (t *table) lift(l *level, g *group) {
	depth := len(t.levels) - 1
	p := t.levels[depth]
	hooks := t.hooksAbove(l, p, g.hooks)
	key := keyOf(hooks)
	if p.groups == nil {
		p.groups = map[string]*group{}
	}
	if other, has := p.groups[key]; has {
		other.fresh = joined(other.fresh, g.fresh)
		other.told = joined(other.told, g.told)
	} else {
		g.hooks = hooks
		p.groups[key] = g
	}
	if len(g.fresh) > 0 {
		t.touch(depth)
	}
}

// hooksAbove: what hooks of a node that was left come to, as hooks of the node right above, p. All is set of the node that was left: so its ways are Unknown by what leads to it alone.
func (t *table) hooksAbove(l, p *level, hooks []int) []int {
	var out []int
	add := func(hook int) {
		if p.value(hook) == isUnknown {
			out = append(out, hook)
		}
	}
	done := 0 // the last row whose way was looked at as one of the hooks
	for _, hook := range hooks {
		row := hook / 2
		if hook == aboveHook(row) {
			add(aboveHook(row))
			add(wayHook(row - 1))
			continue
		}
		top := row
		for ; row > done && l.cells[row].way == isUnknown; row-- {
			if t.rows[row].isDeep {
				add(aboveHook(row))
			}
			if t.rows[row].Axis != api.Self {
				add(wayHook(row - 1))
			}
			if !t.rows[row].atSelf {
				break
			}
		}
		done = top
	}
	slices.Sort(out)
	return slices.Compact(out)
}

// keyOf: the hooks in bytes, so that groups can be found by them.
func keyOf(hooks []int) string {
	var key []byte
	for _, hook := range hooks {
		key = append(key, byte(hook), byte(hook>>8), byte(hook>>16), byte(hook>>24))
	}
	return string(key)
}

// joined: the lesser of two lists is put behind the greater one, so that no number is moved often.
func joined(a, b []int) []int {
	if len(a) < len(b) {
		a, b = b, a
	}
	return append(a, b...)
}

// news: what is ready, and of what hangs yet what is new.
func (t *table) news() []api.Verdict {
	for depth := range t.touched {
		l := t.levels[depth]
		t.sift(l)
		if l.self != nil {
			t.tellFresh(l.self)
		}
		for _, g := range l.groups {
			t.tellFresh(g)
		}
	}
	t.touched = nil
	out := t.ready
	t.ready = nil
	slices.SortFunc(out, func(a, b api.Verdict) int { return a.Number - b.Number })
	return out
}

func (t *table) tellFresh(g *group) {
	t.tell(g.fresh, api.Unknown)
	g.told = joined(g.told, g.fresh)
	g.fresh = nil
}
