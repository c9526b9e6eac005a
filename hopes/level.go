package hopes

import (
	"slices"
	"strings"

	"gimlet/api"
	"gimlet/hunt"
	"gimlet/kleene"
)

// level is a node that is open, or was told last.
type level struct {
	number  int
	name    string
	element bool // the root above is neither an element nor a text
	text    bool
	open    bool
	from    int       // how many characters had come ahead of its own
	rows    []rowHere // of the predicates' paths: the query's own rows are left out
	preds   []predHere
}

// rowHere is what is known of a row at a node.
type rowHere struct {
	meets  bool // the node meets the row's test
	holds  bool // and its predicates hold of the node, and the rest of the path leads from there to what is asked for
	within bool // so it is of a node in this one (by child, right in it)
}

// predHere is what is known of a predicate at a node.
type predHere struct {
	compared api.Truth // of a Some: of its comparison
	known    api.Truth // of all of it
}

// lay: what a node's own event tells.
func (s *stack) lay(l *level, attrs []api.Attr) {
	rows := s.net.Rows[s.net.Main:]
	l.rows = make([]rowHere, len(rows))
	for i, row := range rows {
		l.rows[i].meets = l.meets(row)
	}
	l.preds = make([]predHere, len(s.net.Preds))
	for i, pred := range s.net.Preds {
		switch {
		case pred.Attr != "":
			l.preds[i].compared = ofAttrs(attrs, pred)
		case pred.Op == api.Some:
			l.preds[i].compared = api.True // but where there is a trail
		}
	}
}

func (l *level) meets(row api.Row) bool {
	switch row.Test {
	case api.Named:
		return l.element && l.name == row.Name
	case api.AnyName:
		return l.element
	case api.TextNode:
		return l.text
	}
	return true
}

// ofAttrs: only elements have any, by name.
func ofAttrs(attrs []api.Attr, pred api.Pred) api.Truth {
	i, has := slices.BinarySearchFunc(attrs, pred.Attr, func(a api.Attr, name string) int { return strings.Compare(a.Name, name) })
	if !has {
		return api.False
	}
	return ofValue(attrs[i].Value, pred)
}

func ofValue(value string, pred api.Pred) api.Truth {
	if len(pred.Text) > len(value) { // so that a tag costs no more than its own bytes, however long a text is asked for
		return truth(pred.Compare == api.Unequal)
	}
	h, _ := hunt.New(pred.Compare, pred.Text, pred.Number)
	h.Add(value)
	h.Close()
	return h.Truth()
}

func truth(holds bool) api.Truth {
	if holds {
		return api.True
	}
	return api.False
}

// settle: finds what is known by now at these depths, and at those above at which something is news by this. Each is come to once, the deepest first.
func (s *stack) settle(depths ...int) {
	slices.Sort(depths)
	settled := -1
	for len(depths) > 0 {
		last := len(depths) - 1
		depth := depths[last]
		depths = depths[:last]
		if depth == settled {
			continue
		}
		settled = depth
		s.find(s.levels[depth])
		if depth > 0 && s.tell(s.levels[depth], s.levels[depth-1]) {
			depths = append(depths, depth-1)
		}
	}
}

// find: what is known at the level, each predicate behind those that belong to it or to its path's rows: these have greater numbers.
func (s *stack) find(l *level) {
	for number := len(s.net.Preds) - 1; number >= 0; number-- {
		pred, here := &s.net.Preds[number], &l.preds[number]
		switch pred.Op {
		case api.And:
			here.known = l.all(pred.Args)
		case api.Or:
			here.known = l.any(pred.Args)
		case api.Not:
			here.known = kleene.Not(l.preds[pred.Args[0]].known)
		case api.Some:
			here.known = s.along(l, pred, here.compared)
		}
	}
}

func (l *level) all(preds []int) api.Truth {
	out := api.True
	for _, number := range preds {
		out = kleene.And(out, l.preds[number].known)
	}
	return out
}

func (l *level) any(preds []int) api.Truth {
	out := api.False
	for _, number := range preds {
		out = kleene.Or(out, l.preds[number].known)
	}
	return out
}

// along: what is known of a path from the level's node, found from its end on: at first the comparison is all that is left of it.
func (s *stack) along(l *level, pred *api.Pred, compared api.Truth) api.Truth {
	rest := compared
	for number := pred.First + pred.Count - 1; number >= pred.First; number-- {
		row, here := &s.net.Rows[number], &l.rows[number-s.net.Main]
		at := api.False
		if here.meets {
			at = kleene.And(rest, l.all(row.Preds))
		}
		here.holds = at == api.True
		rest = l.led(row.Axis, at, here.within)
	}
	return rest
}

// led: what is known of a row from the level's node on: by self as at the node; else by what was found in it, and while it is open more may come.
func (l *level) led(a api.Axis, at api.Truth, within bool) api.Truth {
	if a == api.Self {
		return at
	}
	down := truth(within)
	if l.open {
		down = kleene.Or(down, api.Unknown)
	}
	if a == api.OrSelf {
		return kleene.Or(at, down)
	}
	return down
}

// tell: what was found at a node, and in it, to the node right above. It answers whether that is news there. Only what holds is told: what may hold yet is in an open node, and what is above that is open, too.
func (s *stack) tell(l, above *level) bool {
	news := false
	for i, row := range s.net.Rows[s.net.Main:] {
		if row.Axis == api.Self || above.rows[i].within {
			continue
		}
		here := l.rows[i]
		if here.holds || row.Axis != api.Child && here.within {
			above.rows[i].within = true
			news = true
		}
	}
	return news
}
