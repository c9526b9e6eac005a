package kleene_test

import (
	"maps"
	"slices"
	"testing"

	"gimlet/api"
	"gimlet/kleene"
)

// What follows holds the calls against the chapter's own words, followed one after the other as they stand.

func plainValue(n int, values []api.Truth) api.Truth {
	if n >= len(values) {
		return U
	}
	return values[n]
}

func plainEval(f api.Formula, values []api.Truth) api.Truth {
	var list []api.Truth
	for _, a := range f.Args {
		list = append(list, plainEval(a, values))
	}
	switch f.Op {
	case api.Const:
		return f.Value
	case api.Var:
		return plainValue(f.Var, values)
	case api.AndOf:
		return slices.Min(append(list, T))
	case api.OrOf:
		return slices.Max(append(list, F))
	}
	return 2 - list[0]
}

// plain: the simple formula.
func plain(f api.Formula, values []api.Truth) api.Formula {
	switch f.Op {
	case api.Var:
		if t := plainValue(f.Var, values); t != U {
			return k(t)
		}
	case api.NotOf:
		return denied(plain(f.Args[0], values))
	case api.AndOf:
		return plainJoin(f, values, T)
	case api.OrOf:
		return plainJoin(f, values, F)
	}
	return f
}

func plainJoin(f api.Formula, values []api.Truth, idle api.Truth) api.Formula {
	var list []api.Formula
	for _, a := range f.Args {
		if s := plain(a, values); s.Op == f.Op {
			list = append(list, s.Args...)
		} else {
			list = append(list, s)
		}
	}
	isConst := func(t api.Truth) func(api.Formula) bool {
		return func(a api.Formula) bool { return same(a, k(t)) }
	}
	list = slices.DeleteFunc(list, isConst(idle))
	if slices.ContainsFunc(list, isConst(2-idle)) {
		return k(2 - idle)
	}
	slices.SortFunc(list, func(a, b api.Formula) int { return slices.Compare(key(a), key(b)) })
	list = slices.CompactFunc(list, same)
	switch len(list) {
	case 0:
		return k(idle)
	case 1:
		return list[0]
	}
	return api.Formula{Op: f.Op, Args: list}
}

func plainVars(f api.Formula) []int {
	in := map[int]bool{}
	var look func(api.Formula)
	look = func(f api.Formula) {
		if f.Op == api.Var {
			in[f.Var] = true
		}
		for _, a := range f.Args {
			look(a)
		}
	}
	look(f)
	return slices.Sorted(maps.Keys(in))
}

// plainSize: the key has three numbers for each formula, and two more but for the outermost one, which has one.
func plainSize(f api.Formula) int { return (len(key(f)) + 1) / 5 }

// needPlain: P14.3, P14.4, P14.5 (a simple form's own) and P14.8.
func needPlain(t *testing.T, f api.Formula, values []api.Truth) api.Formula {
	t.Helper()
	if x, e := kleene.Eval(f, values); e != api.OK || x != plainEval(f, values) {
		t.Fatalf("P14.3: %s with %v: %d, %d, want %d", shown(f), values, x, e, plainEval(f, values))
	}
	want := plain(f, values)
	got, e := kleene.Simplify(f, values)
	if e != api.OK || !same(got, want) {
		t.Fatalf("P14.4: %s with %v: %s, %d, want %s", shown(f), values, shown(got), e, shown(want))
	}
	if again, e := kleene.Simplify(got, nil); e != api.OK || !same(again, got) {
		t.Fatalf("P14.5: %s is simple, and becomes %s, %d", shown(got), shown(again), e)
	}
	n, _ := kleene.Size(got)
	m, _ := kleene.Size(f)
	if n > m || n < 1 {
		t.Fatalf("P14.8: %s with %v: the size %d, and then %d", shown(f), values, m, n)
	}
	if e := kleene.Check(got); e != api.OK {
		t.Fatalf("P14.4: %s with %v: %s is no formula", shown(f), values, shown(got))
	}
	return got
}

// needCounts: P14.2 and P14.7.
func needCounts(t *testing.T, f api.Formula, vars []int) {
	t.Helper()
	if e := kleene.Check(f); e != api.OK {
		t.Fatalf("P14.2: %s: %d", shown(f), e)
	}
	if list, e := kleene.Vars(f); e != api.OK || !slices.Equal(list, vars) {
		t.Fatalf("P14.7: Vars of %s: %v, %d, want %v", shown(f), list, e, vars)
	}
	if n, e := kleene.Size(f); e != api.OK || n != plainSize(f) {
		t.Fatalf("P14.7: Size of %s: %d, %d", shown(f), n, e)
	}
}

// put: v's value where v knows it, else w's.
func put(v, w []api.Truth) []api.Truth {
	var u []api.Truth
	for n := range max(len(v), len(w)) {
		if t := plainValue(n, v); t != U {
			u = append(u, t)
		} else {
			u = append(u, plainValue(n, w))
		}
	}
	return u
}

// needMeaning: P14.5, of what f becomes with the values v, in all lists w.
func needMeaning(t *testing.T, f, got api.Formula, v []api.Truth, ws [][]api.Truth) {
	t.Helper()
	for _, w := range ws {
		one, _ := kleene.Eval(got, w)
		if two, _ := kleene.Eval(f, put(v, w)); one != two {
			t.Fatalf("P14.5: %s with %v: %s, which with %v is %d, not %d", shown(f), v, shown(got), w, one, two)
		}
	}
}

// needStays: P14.6, and the last sentence of P14.5.
func needStays(t *testing.T, f, got api.Formula, v []api.Truth, ws [][]api.Truth, vars []int) {
	t.Helper()
	x, _ := kleene.Eval(f, v)
	if x == U {
		return
	}
	for _, w := range ws {
		if y, _ := kleene.Eval(f, put(v, w)); y != x {
			t.Fatalf("P14.6: %s with %v is %d, with %v %d", shown(f), v, x, put(v, w), y)
		}
	}
	isUnknown := func(n int) bool { return plainValue(n, v) == U }
	if !slices.ContainsFunc(vars, isUnknown) && !same(got, k(x)) {
		t.Fatalf("P14.5: %s with %v is %d, and becomes %s", shown(f), v, x, shown(got))
	}
}

// TestAllShort: all formulas of at most five formulas, two variables, with all values of them, and with too few and too many.
func TestAllShort(t *testing.T) {
	lists := slices.Concat([][]api.Truth{nil}, valueLists(1, F, U, T), valueLists(2, F, U, T))
	ws := valueLists(2, F, U, T)
	made := newShorts(2)
	for size := 1; size <= 5; size++ {
		for _, f := range made.ofSize(size) {
			vars := plainVars(f)
			needCounts(t, f, vars)
			for _, v := range lists {
				got := needPlain(t, f, v)
				needMeaning(t, f, got, v, ws)
				needStays(t, f, got, v, ws, vars)
			}
		}
	}
	for _, f := range made.ofSize(4) {
		for _, v := range valueLists(3, F, T) {
			needPlain(t, f, v)
		}
	}
}

// TestAllOfSix: those of six formulas, of one variable.
func TestAllOfSix(t *testing.T) {
	for _, f := range shorts(6, 1) {
		needPlain(t, f, nil)
		needPlain(t, f, []api.Truth{T})
	}
}

// TestByChance: greater formulas, of more variables.
func TestByChance(t *testing.T) {
	for seed := range uint64(20000) {
		m := newMaker(seed)
		vars := 1 + m.r.IntN(6)
		f := m.formula(1+m.r.IntN(5), vars)
		in := plainVars(f)
		needCounts(t, f, in)
		ws := [][]api.Truth{nil, m.values(7), m.values(7), m.values(7)}
		for _, v := range [][]api.Truth{nil, m.values(7), m.values(2), pick(m, valueLists(6, F, T))} {
			got := needPlain(t, f, v)
			needMeaning(t, f, got, v, ws)
			needStays(t, f, got, v, ws, in)
		}
	}
}
