package ways

import (
	"gimlet/api"
	"gimlet/kleene"
)

// table is all that a Ways keeps: of each open node what is set of it, and how each row leads to it; and what hangs on these.
type table struct {
	rows    []row    // the own rows, from 1 on
	owns    []own    // by the predicates' numbers
	levels  []*level // the open nodes by their depths
	sets    int      // how many own predicates there are
	last    int      // the number of the node entered last
	entries int
	unsure  int
	touched map[int]struct{} // the depths of the open nodes on which something hangs that may be news
	ready   []api.Verdict    // of nodes that hang on nothing more
}

// row is one of the net's own; row 0, ahead of them, stands for where the path begins, at the root above.
type row struct {
	api.Row
	isDeep bool // by descendant, or by descendant-or-self
	atSelf bool // by self, or by descendant-or-self
}

// own is where a predicate's value stands; row is 0 where it is no own predicate.
type own struct {
	row, place int
}

// level is an open node.
type level struct {
	text   bool
	cells  []cell  // by the rows' numbers
	set    []known // of each own predicate
	unset  int     // how many of these are Unknown
	self   *group  // the node itself, as long as nothing is known of it
	groups map[string]*group
}

// cell is of a node m and a row i.
type cell struct {
	meets   known // the test of the row, and its predicates, at the node
	above   known // where the row is a deep one: the Or of R(a, i - 1) over all nodes a in which m is
	way     known // R(m, i)
	missing int32 // how many of the row's predicates are Unknown
}

// known is an api.Truth in a byte: there are some for each pair of an open node and a row.
type known uint8

const (
	isFalse   = known(api.False)
	isUnknown = known(api.Unknown)
	isTrue    = known(api.True)
)

func and(a, b known) known { return known(kleene.And(api.Truth(a), api.Truth(b))) }

func or(a, b known) known { return known(kleene.Or(api.Truth(a), api.Truth(b))) }

func newTable(n api.Net) *table {
	t := &table{rows: make([]row, 1, 1+n.Main), owns: make([]own, len(n.Preds)), last: -1}
	for i, r := range n.Rows[:n.Main] {
		isOrSelf := r.Axis == api.OrSelf
		t.rows = append(t.rows, row{r, isOrSelf || r.Axis == api.Descendant, isOrSelf || r.Axis == api.Self})
		for _, pred := range r.Preds {
			t.owns[pred] = own{1 + i, t.sets}
			t.sets++
		}
	}
	root := t.newLevel()
	root.cells[0].way = isTrue
	t.push(root, func(r api.Row) bool { return r.Test == api.AnyNode })
	return t
}

func (t *table) newLevel() *level {
	l := &level{cells: make([]cell, len(t.rows)), set: make([]known, t.sets), unset: t.sets}
	for i := range l.set {
		l.set[i] = isUnknown
	}
	return l
}

// push: a node that meets these tests comes behind the open ones.
func (t *table) push(l *level, meets func(api.Row) bool) {
	depth := len(t.levels)
	t.levels = append(t.levels, l)
	for i := 1; i < len(t.rows); i++ {
		c, preds := &l.cells[i], len(t.rows[i].Preds)
		c.missing = int32(preds)
		switch {
		case !meets(t.rows[i].Row):
			c.meets = isFalse
		case preds > 0:
			c.meets = isUnknown
		default:
			c.meets = isTrue
		}
		c.above = t.above(depth, i)
		c.way = and(c.meets, t.reach(depth, i))
		t.count(c.way, 1)
	}
}

// pop: the last one of the open nodes is open no more.
func (t *table) pop() *level {
	depth := len(t.levels) - 1
	l := t.levels[depth]
	t.levels[depth] = nil
	t.levels = t.levels[:depth]
	delete(t.touched, depth)
	for _, c := range l.cells[1:] {
		t.count(c.way, -1)
	}
	return l
}

// count: pairs with this value are more, or less, by n.
func (t *table) count(v known, n int) {
	if v != isFalse {
		t.entries += n
	}
	if v == isUnknown {
		t.unsure += n
	}
}

// above: of a deep row i, the Or of R(a, i - 1) over the nodes a in which the node at that depth is, by what it is of the node right above.
func (t *table) above(depth, i int) known {
	if depth == 0 || !t.rows[i].isDeep {
		return isFalse
	}
	cells := t.levels[depth-1].cells
	return or(cells[i].above, cells[i-1].way)
}

// reach: what the row's axis makes of what the row ahead of it leads to.
func (t *table) reach(depth, i int) known {
	cells := t.levels[depth].cells
	switch t.rows[i].Axis {
	case api.Self:
		return cells[i-1].way
	case api.OrSelf:
		return or(cells[i].above, cells[i-1].way)
	case api.Descendant:
		return cells[i].above
	}
	if depth == 0 {
		return isFalse
	}
	return t.levels[depth-1].cells[i-1].way
}

// set: a predicate of which nothing was known, or what was known already.
func (t *table) set(depth, pred int, v known) {
	l, o := t.levels[depth], t.owns[pred]
	if v == l.set[o.place] {
		return
	}
	l.set[o.place] = v
	l.unset--
	c := &l.cells[o.row]
	c.missing--
	switch {
	case v == isFalse:
		c.meets = isFalse
	case c.missing == 0 && c.meets == isUnknown:
		c.meets = isTrue
	}
	t.settle(spot{depth, o.row})
}

// spot is a cell by where it stands.
type spot struct {
	depth, row int
}

// settle: works the cell out anew, and with it all that hang on what has changed. Only what was Unknown changes, so each of them does so once.
func (t *table) settle(first spot) {
	list := []spot{first}
	for len(list) > 0 {
		last := len(list) - 1
		s := list[last]
		list = t.rework(s, list[:last])
	}
}

// rework: a cell. It adds to the list what hangs on it, where it has changed.
func (t *table) rework(s spot, list []spot) []spot {
	l := t.levels[s.depth]
	c := &l.cells[s.row]
	isLast := s.depth == len(t.levels)-1
	if v := t.above(s.depth, s.row); v != c.above {
		c.above = v
		t.touch(s.depth)
		if !isLast {
			list = append(list, spot{s.depth + 1, s.row})
		}
	}
	v := and(c.meets, t.reach(s.depth, s.row))
	if v == c.way {
		return list
	}
	t.count(c.way, -1)
	c.way = v
	t.count(c.way, 1)
	t.touch(s.depth)
	next := s.row + 1
	if next == len(t.rows) {
		return list
	}
	if t.rows[next].atSelf {
		list = append(list, spot{s.depth, next})
	}
	if !isLast && t.rows[next].Axis != api.Self {
		list = append(list, spot{s.depth + 1, next})
	}
	return list
}
