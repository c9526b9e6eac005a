package ways

import "gimlet/api"

// mayEnter: e's node may come next.
func (t *table) mayEnter(e api.Event) bool {
	switch e.Kind {
	case api.Open:
		return e.Number > t.last
	case api.Text:
		return e.Number > t.last && t.deepest() > 0
	}
	return false
}

// deepest: the depth of the element entered last that wasn't left, or of the root above.
func (t *table) deepest() int {
	depth := len(t.levels) - 1
	if t.levels[depth].text {
		depth--
	}
	return depth
}

// has: there is an open node of that depth, and such an own predicate.
func (t *table) has(depth, pred int) bool {
	return depth >= 0 && depth < len(t.levels) && pred >= 0 && pred < len(t.owns) && t.owns[pred].row > 0
}

func (t *table) maySet(depth, pred int, v known) bool {
	old := t.levels[depth].set[t.owns[pred].place]
	return old == isUnknown || old == v
}

func (t *table) mayLeave() bool {
	depth := t.deepest()
	return depth > 0 && t.levels[depth].unset == 0
}

// enter: an Open's node, or a Text's.
func (t *table) enter(e api.Event) {
	t.last = e.Number
	l := t.newLevel()
	l.text = e.Kind == api.Text
	t.push(l, func(r api.Row) bool { return meets(e, r) })
	whole := len(t.rows) - 1
	switch l.cells[whole].way {
	case isTrue:
		t.ready = append(t.ready, api.Verdict{Number: e.Number, Truth: api.True})
	case isUnknown:
		l.self = &group{hooks: []int{wayHook(whole)}, fresh: []int{e.Number}}
		t.touch(len(t.levels) - 1)
	}
}

func meets(e api.Event, r api.Row) bool {
	switch r.Test {
	case api.Named:
		return e.Kind == api.Open && e.Name == r.Name
	case api.AnyName:
		return e.Kind == api.Open
	case api.TextNode:
		return e.Kind == api.Text
	}
	return true
}

// leaveText: if a text was entered last. Nothing more can be known of it.
func (t *table) leaveText() {
	depth := len(t.levels) - 1
	l := t.levels[depth]
	if !l.text {
		return
	}
	for pred, o := range t.owns {
		if o.row > 0 && l.set[o.place] == isUnknown {
			t.set(depth, pred, isFalse)
		}
	}
	t.leave()
}

// leave: the node entered last. What hangs on it goes on to hang on the node right above.
func (t *table) leave() {
	l := t.pop()
	t.sift(l)
	if l.self != nil {
		t.lift(l, l.self)
	}
	for _, g := range l.groups {
		t.lift(l, g)
	}
}
