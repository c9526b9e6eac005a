package net_test

import (
	"math"
	"reflect"
	"slices"
	"testing"

	"gimlet/api"
	"gimlet/ask"
	"gimlet/net"
)

// What follows tries all small paths, and their nets with all their numbers changed, against the plain reading.

// allPaths: of just that size, of steps child::a and of Somes that ask for nothing but that there is one.
func allPaths(size int) []api.Path {
	var list []api.Path
	for first := 1; first <= size; first++ {
		rests := []api.Path{{}}
		if first < size {
			rests = allPaths(size - first)
		}
		for _, where := range allLists(first - 1) {
			for _, rest := range rests {
				list = append(list, steps(append([]api.Step{child("a", where...)}, rest.Steps...)...))
			}
		}
	}
	return list
}

// allLists: of expressions of that size together.
func allLists(size int) [][]api.Expr {
	if size == 0 {
		return [][]api.Expr{nil}
	}
	var list [][]api.Expr
	for first := 1; first <= size; first++ {
		for _, x := range allExprs(first) {
			for _, rest := range allLists(size - first) {
				list = append(list, append([]api.Expr{x}, rest...))
			}
		}
	}
	return list
}

func allExprs(size int) []api.Expr {
	if size < 2 {
		return nil
	}
	var list []api.Expr
	for _, x := range allExprs(size - 1) {
		list = append(list, no(x))
	}
	for _, p := range allPaths(size - 1) {
		list = append(list, there(p.Steps...))
	}
	for _, parts := range allLists(size - 1) {
		if len(parts) > 1 {
			list = append(list, allOf(parts...), oneOf(parts...))
		}
	}
	return list
}

// pathsTo: all of at most that size.
func pathsTo(most int) []api.Path {
	var list []api.Path
	for size := 1; size <= most; size++ {
		list = append(list, allPaths(size)...)
	}
	return list
}

// TestAllSmall: P17.1, P17.2, P17.4: each query has one net, and no two have the same.
func TestAllSmall(t *testing.T) {
	seen := map[string]bool{}
	for _, p := range pathsTo(10) {
		n := needNet(t, p)
		s := lines(n)
		if seen[s] {
			t.Fatalf("P17.2: two queries have the net\n%s", s)
		}
		seen[s] = true
	}
	t.Logf("%d paths", len(seen))
}

// numbersOf: all of a net's own numbers of rows and preds.
func numbersOf(n *api.Net) []*int {
	list := []*int{&n.Main}
	for i := range n.Rows {
		for k := range n.Rows[i].Preds {
			list = append(list, &n.Rows[i].Preds[k])
		}
	}
	for i := range n.Preds {
		x := &n.Preds[i]
		for k := range x.Args {
			list = append(list, &x.Args[k])
		}
		list = append(list, &x.First, &x.Count)
	}
	return list
}

// eachOf: all values from least to most in the places.
func eachOf(places []*int, least, most int, visit func()) {
	if len(places) == 0 {
		visit()
		return
	}
	old := *places[0]
	for *places[0] = least; *places[0] <= most; *places[0]++ {
		eachOf(places[1:], least, most, visit)
	}
	*places[0] = old
}

// TestAllNumbers: P17.2: small nets with all numbers in all places at once.
func TestAllNumbers(t *testing.T) {
	tried, good := 0, 0
	for _, p := range pathsTo(6) {
		n := made(p)
		places := numbersOf(&n)
		most := max(len(n.Rows), len(n.Preds))
		if math.Pow(float64(most+3), float64(len(places))) > 50000 {
			continue
		}
		eachOf(places, -1, most+1, func() {
			tried++
			if judge(t, n) {
				good++
			}
			if t.Failed() {
				t.FailNow()
			}
		})
	}
	t.Logf("%d of %d are nets", good, tried)
}

// TestAllPairs: P17.2: nets with all numbers in any two places.
func TestAllPairs(t *testing.T) {
	tried, good := 0, 0
	for _, p := range pathsTo(6) {
		n := made(p)
		places := numbersOf(&n)
		most := max(len(n.Rows), len(n.Preds))
		for i := range places {
			for k := range i {
				eachOf([]*int{places[i], places[k]}, -1, most+1, func() {
					tried++
					if judge(t, n) {
						good++
					}
				})
			}
		}
		if t.Failed() {
			t.FailNow()
		}
	}
	t.Logf("%d of %d are nets", good, tried)
}

// orders: of the numbers below n.
func orders(n int) [][]int {
	if n == 0 {
		return [][]int{nil}
	}
	var list [][]int
	for _, order := range orders(n - 1) {
		for at := range n {
			list = append(list, slices.Insert(slices.Clone(order), at, n-1))
		}
	}
	return list
}

// renumbered: n with pred k as pred order[k], wherever its number stands.
func renumbered(n api.Net, order []int) api.Net {
	m := tidy(n)
	rename := func(list []int) {
		for i, k := range list {
			list[i] = order[k]
		}
	}
	for i := range m.Rows {
		rename(m.Rows[i].Preds)
	}
	old := slices.Clone(m.Preds)
	for i, x := range old {
		rename(x.Args)
		m.Preds[order[i]] = x
	}
	return m
}

// moved: n with the rows of its Somes in another order, wherever their numbers stand.
func moved(n api.Net, order []int) api.Net {
	m := tidy(n)
	m.Rows = slices.Clip(m.Rows[:n.Main])
	var somes []int
	for i, x := range n.Preds {
		if x.Op == api.Some {
			somes = append(somes, i)
		}
	}
	for _, i := range order {
		x := n.Preds[somes[i]]
		m.Preds[somes[i]].First = len(m.Rows)
		m.Rows = append(m.Rows, n.Rows[x.First:x.First+x.Count]...)
	}
	return m
}

// TestOtherOrders: P17.2: what has the same rows and preds in another order hangs together as the net does, but is none.
func TestOtherOrders(t *testing.T) {
	for _, p := range pathsTo(8) {
		n := made(p)
		somes := 0
		for _, x := range n.Preds {
			if x.Op == api.Some {
				somes++
			}
		}
		try := func(m api.Net) {
			want := reflect.DeepEqual(tidy(m), n)
			if is := judge(t, m); is != want {
				t.Errorf("P17.2: %+v is a net: %v; the net is %+v", m, is, n)
			}
		}
		for _, order := range orders(len(n.Preds)) {
			try(renumbered(n, order))
		}
		for _, order := range orders(somes) {
			try(moved(n, order))
		}
		for i := range n.Rows {
			for k := range i {
				m := tidy(n)
				m.Rows[i], m.Rows[k] = m.Rows[k], m.Rows[i]
				judge(t, m)
			}
		}
		for i := range n.Preds {
			for k := range i {
				m := tidy(n)
				m.Preds[i], m.Preds[k] = m.Preds[k], m.Preds[i]
				judge(t, m)
			}
		}
		if t.Failed() {
			t.FailNow()
		}
	}
}

// eachChange: visits the net with each of its fields changed to each of several values, lists cut, doubled, emptied and mixed; then all is as it was.
func eachChange(v reflect.Value, visit func()) {
	switch v.Kind() {
	case reflect.Struct:
		for i := range v.NumField() {
			eachChange(v.Field(i), visit)
		}
	case reflect.Int:
		old := v.Int()
		for _, n := range []int64{-1, 0, 1, 2, 3, 4, 5, 6, 7, 8, 9, 10, api.MaxNumber, api.MaxNumber + 1, math.MaxInt32, math.MinInt32, 1 << 32, math.MaxInt, math.MinInt, old - 1, old + 1, -old, old + 1<<32, old + math.MinInt} {
			v.SetInt(n)
			visit()
		}
		v.SetInt(old)
	case reflect.String:
		old := v.String()
		for _, s := range append(someTexts(), "a", "b", "x", "1", "a b", "\xFF", "a\xFF", "\xED\xA0\x80", `'"`, "*", "text()", "node()", "."+old, old+"é", old+" ") {
			v.SetString(s)
			visit()
		}
		v.SetString(old)
	case reflect.Slice:
		eachListChange(v, visit)
		for i := range v.Len() {
			eachChange(v.Index(i), visit)
		}
	}
}

func eachListChange(v reflect.Value, visit func()) {
	old := reflect.ValueOf(v.Interface())
	join := func(lists ...reflect.Value) {
		v.Set(reflect.MakeSlice(v.Type(), 0, 0))
		for _, list := range lists {
			v.Set(reflect.AppendSlice(v, list))
		}
		visit()
	}
	one := reflect.MakeSlice(v.Type(), 1, 1)
	for n := range old.Len() + 1 {
		front, behind := old.Slice(0, n), old.Slice(n, old.Len())
		join(front)
		join(behind)
		join(behind, front)
		join(front, front, behind)
		for _, x := range extras(v.Type()) {
			one.Index(0).Set(reflect.ValueOf(x))
			join(front, one, behind)
		}
		if n < old.Len() {
			join(front, old.Slice(n+1, old.Len()))
		}
	}
	v.Set(reflect.Zero(v.Type()))
	visit()
	v.Set(old)
}

// extras: one too many of a list's kind.
func extras(list reflect.Type) []any {
	switch list {
	case reflect.TypeFor[[]api.Row]():
		return []any{api.Row{}, api.Row{Name: "a"}, api.Row{Axis: api.Self, Test: api.AnyNode}, api.Row{Name: "a", Preds: []int{0}}}
	case reflect.TypeFor[[]api.Pred]():
		return []any{api.Pred{}, api.Pred{Op: api.Some}, api.Pred{Op: api.Some, First: 1, Count: 1}, api.Pred{Op: api.Not, Args: []int{1}}, api.Pred{Op: api.And, Args: []int{1, 2}}}
	}
	return []any{-1, 0, 1, 2, 3, math.MaxInt, math.MinInt}
}

// TestChanged: P17.2: each field, number and list of nets of all kinds changed, cut, doubled.
func TestChanged(t *testing.T) {
	for _, q := range queries() {
		t.Run(q, func(t *testing.T) {
			t.Parallel()
			n := needNet(t, query(t, q))
			before := tidy(n)
			good, bad := 0, 0
			eachChange(reflect.ValueOf(&n).Elem(), func() {
				if judge(t, n) {
					good++
				} else {
					bad++
				}
				if t.Failed() {
					t.FailNow()
				}
			})
			if !reflect.DeepEqual(tidy(n), before) || good == 0 || bad == 0 {
				t.Errorf("%s: %d are nets, %d are none", q, good, bad)
			}
		})
	}
}

// leaves: all places of numbers in what stands at v, but lengths.
func leaves(v reflect.Value) []reflect.Value {
	switch v.Kind() {
	case reflect.Struct:
		var list []reflect.Value
		for i := range v.NumField() {
			list = append(list, leaves(v.Field(i))...)
		}
		return list
	case reflect.Slice:
		var list []reflect.Value
		for i := range v.Len() {
			list = append(list, leaves(v.Index(i))...)
		}
		return list
	case reflect.Int:
		return []reflect.Value{v}
	}
	return nil
}

// TestByChance: paths of all kinds that are made, and their nets with several numbers and lists changed.
func TestByChance(t *testing.T) {
	for seed := range uint64(8) {
		t.Run("", func(t *testing.T) {
			t.Parallel()
			m := newMaker(seed)
			for range 200 {
				p := m.path(m.r.IntN(5))
				if ask.Check(p) != api.OK {
					t.Fatalf("no query's path was made: %+v", p)
				}
				n := needNet(t, p)
				if s, e := net.Print(n); e != api.OK || s != lines(made(p)) {
					t.Fatalf("P17.3: Print of %+v:\n%s%d, want\n%s", n, s, e, lines(made(p)))
				}
				for range 8 {
					o := tidy(n)
					m.spoil(&o)
					judge(t, o)
				}
				if t.Failed() {
					t.FailNow()
				}
			}
		})
	}
}

// spoil: changes one to three things.
func (m maker) spoil(n *api.Net) {
	for range 1 + m.r.IntN(3) {
		places := leaves(reflect.ValueOf(n).Elem())
		one, other := pick(m, places), pick(m, places)
		switch m.r.IntN(6) {
		case 0:
			a, b := one.Int(), other.Int()
			one.SetInt(b)
			other.SetInt(a)
		case 1:
			one.SetInt(one.Int() + int64(m.r.IntN(5)-2))
		case 2:
			one.SetInt(int64(m.r.IntN(len(n.Rows) + len(n.Preds) + 1)))
		case 3:
			if len(n.Rows) > 0 {
				i := m.r.IntN(len(n.Rows))
				n.Rows = append(n.Rows, n.Rows[i])
			}
		case 4:
			if len(n.Preds) > 0 {
				i := m.r.IntN(len(n.Preds))
				n.Preds = append(n.Preds, n.Preds[i])
			}
		case 5:
			if len(n.Rows) > 0 {
				r := &n.Rows[m.r.IntN(len(n.Rows))]
				r.Preds = append(r.Preds[:len(r.Preds):len(r.Preds)], len(n.Preds)-1)
			}
		}
	}
}
