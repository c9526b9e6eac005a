package kleene_test

import (
	"reflect"
	"slices"
	"testing"
	"time"

	"gimlet/api"
	"gimlet/kleene"
)

// What follows tries what is great, and whose memory it is.

// nested is how many parts within one another the document promises something of.
const nested = 1 << 16

// within: what is tried ends in a minute.
func within(t *testing.T, try func()) {
	t.Helper()
	done := make(chan struct{})
	go func() {
		defer close(done)
		try()
	}()
	select {
	case <-done:
	case <-time.After(time.Minute):
		t.Error("P1: it doesn't end in a minute")
	}
}

// allVars: so many variables, from a number on.
func allVars(from, many int) []api.Formula {
	var list []api.Formula
	for n := range many {
		list = append(list, v(from+n))
	}
	return list
}

// needGreat: all calls, of what is too great for the plain reading.
func needGreat(t *testing.T, f api.Formula, values []api.Truth, want api.Formula, value api.Truth) {
	t.Helper()
	needSimple(t, f, values, want)
	if x, e := kleene.Eval(f, values); x != value || e != api.OK {
		t.Errorf("P14.3: %.100s: %d, %d, want %d", shown(f), x, e, value)
	}
	if e := kleene.Check(f); e != api.OK {
		t.Errorf("P14.2: %.100s: %d", shown(f), e)
	}
	if n, e := kleene.Size(f); n != plainSize(f) || e != api.OK {
		t.Errorf("P14.7: Size of %.100s: %d, %d", shown(f), n, e)
	}
	if list, e := kleene.Vars(f); !slices.Equal(list, plainVars(f)) || e != api.OK {
		t.Errorf("P14.7: Vars of %.100s: %v, %d", shown(f), few(list), e)
	}
}

func TestDeepNots(t *testing.T) {
	deny := func(_ int, f api.Formula) api.Formula { return not(f) }
	for _, n := range []int{nested - 1, nested - 2} {
		needGreat(t, wrapped(n, v(0), deny), nil, wrapped(n%2, v(0), deny), U)
		needGreat(t, wrapped(n, v(0), deny), []api.Truth{T}, k(api.Truth(2-n%2*2)), api.Truth(2-n%2*2))
		needGreat(t, wrapped(n, k(U), deny), nil, k(U), U)
		needGreat(t, wrapped(n, and(v(1), v(0)), deny), nil, wrapped(n%2, and(v(0), v(1)), deny), U)
	}
}

// TestDeepJoins: formulas whose arguments go up from each depth to the next, by each rule that lets them.
func TestDeepJoins(t *testing.T) {
	const most = nested - 1
	for name, r := range map[string]struct {
		each   int // how many formulas around makes within one another
		around func(int, api.Formula) api.Formula
	}{
		"alone":      {1, func(_ int, f api.Formula) api.Formula { return or(f) }},
		"behind":     {1, func(i int, f api.Formula) api.Formula { return or(v(i), f) }},
		"ahead":      {1, func(i int, f api.Formula) api.Formula { return or(f, v(i)) }},
		"falling":    {1, func(i int, f api.Formula) api.Formula { return or(v(api.MaxVars-1-i), f) }},
		"twice":      {1, func(i int, f api.Formula) api.Formula { return or(v(i), f, v(i), v(1), k(F)) }},
		"equal":      {1, func(_ int, f api.Formula) api.Formula { return or(v(0), v(0), f, v(0)) }},
		"in one":     {2, func(i int, f api.Formula) api.Formula { return or(v(i), and(f)) }},
		"in true":    {2, func(i int, f api.Formula) api.Formula { return or(v(i), and(k(T), f)) }},
		"in nots":    {3, func(i int, f api.Formula) api.Formula { return or(v(i), not(not(f))) }},
		"in denials": {4, func(i int, f api.Formula) api.Formula { return or(v(i), not(and(k(T), not(f)))) }},
		"in several": {2, func(i int, f api.Formula) api.Formula { return or(v(i), or(v(0), v(1), v(i)), f) }},
	} {
		within(t, func() {
			n := most / r.each
			f := wrapped(n, or(v(1), v(0)), r.around)
			list := plainVars(f)
			var args []api.Formula
			for _, n := range list {
				args = append(args, v(n))
			}
			if n := len(list); n != 2 && n < nested/8 {
				t.Errorf("%s: only %d variables", name, n)
			}
			needGreat(t, f, nil, or(args...), U)
			needGreat(t, f, slices.Repeat([]api.Truth{F}, api.MaxVars), k(F), F)
			needGreat(t, f, append(slices.Repeat([]api.Truth{U}, list[len(list)-1]), T), k(T), T)
		})
	}
}

// TestDeepMixed: AndOf in OrOf in AndOf: nothing goes up.
func TestDeepMixed(t *testing.T) {
	mixed := func(i int, f api.Formula) api.Formula {
		if i%2 == 0 {
			return or(f, v(i+1))
		}
		return and(not(f), v(i+1))
	}
	simple := func(i int, f api.Formula) api.Formula {
		if i%2 == 0 {
			return or(v(i+1), f)
		}
		return and(v(i+1), not(f))
	}
	within(t, func() {
		const n = nested / 3 * 2 // an even number: the outermost one is an AndOf
		f := wrapped(n, and(v(1), v(0)), mixed)
		needGreat(t, f, nil, wrapped(n, and(v(0), v(1)), simple), U)
		needGreat(t, f, slices.Repeat([]api.Truth{F}, api.MaxVars), k(F), F)
		needGreat(t, f, append(slices.Repeat([]api.Truth{U}, n), F), k(F), F)
	})
}

// TestDeepTwins: two that differ, if at all, only at their deepest place.
func TestDeepTwins(t *testing.T) {
	around := func(_ int, f api.Formula) api.Formula { return and(v(9), not(or(v(8), f))) }
	deep := func(n int) api.Formula {
		return wrapped(nested/3-2, and(v(9), not(or(v(n), v(8)))), around)
	}
	within(t, func() {
		needGreat(t, or(deep(1), deep(0), deep(1)), nil, or(deep(0), deep(1)), U)
		needGreat(t, or(deep(0), deep(0)), nil, deep(0), U)
		needGreat(t, and(not(deep(0)), v(7), not(deep(0))), nil, and(v(7), not(deep(0))), U)
		needGreat(t, or(deep(7), deep(1), deep(0), not(deep(3)), not(deep(2))), nil, or(deep(0), deep(1), deep(7), not(deep(2)), not(deep(3))), U)
	})
}

func TestWide(t *testing.T) {
	within(t, func() {
		all := allVars(0, api.MaxVars)
		falling := slices.Clone(all)
		slices.Reverse(falling)
		for _, list := range [][]api.Formula{all, falling, slices.Concat(all, falling, all)} {
			needGreat(t, and(list...), nil, and(all...), U)
			needGreat(t, or(list...), nil, or(all...), U)
			needGreat(t, or(list...), slices.Repeat([]api.Truth{F}, api.MaxVars-2), or(all[api.MaxVars-2:]...), U)
			needGreat(t, or(list...), slices.Repeat([]api.Truth{F}, api.MaxVars), k(F), F)
			needGreat(t, or(append(list, k(T))...), nil, k(T), T)
			needGreat(t, not(and(list...)), slices.Repeat([]api.Truth{T}, api.MaxVars+9), k(F), F)
		}
		needGreat(t, and(slices.Repeat([]api.Formula{v(3)}, 1000000)...), nil, v(3), U)
		needGreat(t, and(slices.Repeat([]api.Formula{k(T)}, 1000000)...), nil, k(T), T)
		needGreat(t, or(slices.Repeat([]api.Formula{k(U), k(F)}, 500000)...), nil, k(U), U)
	})
}

// TestWideJoins: many arguments of the same kind, and of the other.
func TestWideJoins(t *testing.T) {
	within(t, func() {
		all := allVars(0, api.MaxVars)
		var pairs, pairsBack, same []api.Formula
		for n := 0; n < api.MaxVars; n += 2 {
			pairs = append(pairs, or(v(n), v(n+1)))
			pairsBack = append(pairsBack, or(v(n+1), v(n), v(n+1)))
			same = append(same, and(v(n+1), v(n)))
		}
		slices.Reverse(pairsBack)
		slices.Reverse(same)
		needGreat(t, and(pairsBack...), nil, and(pairs...), U)
		needGreat(t, and(slices.Concat(pairsBack, pairs)...), nil, and(pairs...), U)
		needGreat(t, or(pairsBack...), nil, or(all...), U)
		needGreat(t, and(same...), nil, and(all...), U)
		needGreat(t, and(slices.Concat(same, pairsBack, same)...), nil, and(slices.Concat(all, pairs)...), U)
		wide := or(slices.Concat(pairsBack, all)...)
		needGreat(t, and(wide, wide, or(all...)), nil, or(all...), U)
	})
}

// TestEndless: values that hold themselves are no formulas, and the calls end.
func TestEndless(t *testing.T) {
	within(t, func() {
		for _, op := range []api.FormulaOp{api.AndOf, api.OrOf, api.NotOf} {
			list := []api.Formula{{Op: op}}
			list[0].Args = list
			twice := []api.Formula{{Op: op}, v(0), {Op: api.OrOf}}
			twice[0].Args, twice[2].Args = twice[:1], twice
			for _, f := range []api.Formula{list[0], and(v(0), list[0]), twice[0], twice[2]} {
				if e := kleene.Check(f); e != api.ErrShape {
					t.Errorf("P14.2: %d", e)
				}
				_, a := kleene.Eval(f, nil)
				_, b := kleene.Simplify(f, nil)
				_, c := kleene.Vars(f)
				_, d := kleene.Size(f)
				if a != api.ErrShape || b != api.ErrShape || c != api.ErrShape || d != api.ErrShape {
					t.Errorf("P1: %d, %d, %d, %d", a, b, c, d)
				}
			}
		}
	})
}

// roomy: a copy of the formula, each list of which has room for two more, filled.
func roomy(f api.Formula) api.Formula {
	list := make([]api.Formula, 0, len(f.Args)+2)
	for _, a := range f.Args {
		list = append(list, roomy(a))
	}
	_ = append(list, and(v(11)), and(v(12)))
	f.Args = list
	return f
}

// whole: the formula with what stands in its spare room.
func whole(f api.Formula) api.Formula {
	var list []api.Formula
	for _, a := range f.Args[:cap(f.Args)] {
		list = append(list, whole(a))
	}
	f.Args = list
	return f
}

// places: the addresses of all the members of all lists, those in their spare room too.
func places(f api.Formula, seen map[*api.Formula]int) {
	room := f.Args[:cap(f.Args)]
	for i := range room {
		seen[&room[i]]++
		places(room[i], seen)
	}
}

// needApart: no two lists of the formulas share memory.
func needApart(t *testing.T, what string, list ...api.Formula) {
	t.Helper()
	seen := map[*api.Formula]int{}
	for _, f := range list {
		places(f, seen)
	}
	for _, n := range seen {
		if n > 1 {
			t.Fatalf("P14.9: %s: a list stands twice", what)
		}
	}
}

// spoil: writes over all that a formula holds, its spare room too.
func spoil(f api.Formula) {
	room := f.Args[:cap(f.Args)]
	for i := range room {
		spoil(room[i])
		room[i] = api.Formula{Op: 9, Value: 9, Var: -9}
	}
}

// manyFormulas: made by rules and by chance.
func manyFormulas(t *testing.T) []api.Formula {
	t.Helper()
	var list []api.Formula
	for _, text := range slices.Concat(ruled(), rising(), []string{"or(v5 and(v0 or(v4 and(v0 or(v3 v2)))))", "and(or(v0 v1) or(v1 v0))", "and(and(v0 v1) and(v2 v3 v4) v0)", "not(not(and(v1 v0 v1)))", "and(and(v0 v1 v2) and(v0 v1 v2) or(v5 v5 v6))"}) {
		list = append(list, made(t, text))
	}
	for seed := range uint64(3000) {
		m := newMaker(seed + 1<<20)
		list = append(list, m.formula(4, 5))
	}
	return list
}

// TestMemory: P14.9: what is handed in stays as it is, its spare room too; what is answered shares nothing with it, nor with another answer, nor within itself.
func TestMemory(t *testing.T) {
	for i, made := range manyFormulas(t) {
		m := newMaker(uint64(i))
		f, values := roomy(made), append(m.values(6), F, 7, 8)
		values = values[:len(values)-2]
		before, room := whole(f), slices.Clone(values[:len(values)+2])
		one, _ := kleene.Simplify(f, values)
		kleene.Check(f)
		kleene.Eval(f, values)
		kleene.Size(f)
		vars, _ := kleene.Vars(f)
		other, _ := kleene.Vars(f)
		two, e := kleene.Simplify(f, values)
		if e != api.OK || !reflect.DeepEqual(whole(f), before) || !slices.Equal(values[:len(values)+2], room) {
			t.Fatalf("P14.9: %s was changed, %d", shown(made), e)
		}
		needApart(t, shown(made), f, one, two)
		want, known := roomy(one), slices.Clone(values)
		spoil(f)
		spoil(two)
		clear(values[:cap(values)])
		clear(other[:cap(other)])
		if !same(one, want) || !slices.Equal(vars, plainVars(made)) {
			t.Fatalf("P14.9: %s: behind what was written over: %s, %v", shown(made), shown(one), vars)
		}
		if again, e := kleene.Simplify(made, known); e != api.OK || !same(again, want) {
			t.Fatalf("P14.9: %s: %s, and first %s", shown(made), shown(again), shown(want))
		}
	}
}

// TestLent: an answer shares nothing with lists that stand several times in what is handed in.
func TestLent(t *testing.T) {
	list := []api.Formula{v(1), or(v(3), v(2)), v(0)}
	f := or(and(list...), not(and(list...)), and(list[1:]...), and(list[:2]...), or(list...))
	got, e := kleene.Simplify(f, nil)
	want := plain(f, nil)
	if e != api.OK || !same(got, want) {
		t.Fatalf("P14.4: %s, %d, want %s", shown(got), e, shown(want))
	}
	needApart(t, shown(f), got)
	clear(list)
	if !same(got, want) {
		t.Errorf("P14.9: %s, want %s", shown(got), shown(want))
	}
}

// TestNilAndEmpty: rule 4: empty lists are as nil ones, their spare room too.
func TestNilAndEmpty(t *testing.T) {
	room := make([]api.Formula, 0, 3)
	empty := api.Formula{Op: api.AndOf, Args: []api.Formula{{Op: api.Var, Var: 1, Args: room}, {Op: api.OrOf, Args: []api.Formula{{Args: room}, {Op: api.Var, Args: []api.Formula{}}}}, {Op: api.Const, Value: U, Args: room}, {Op: api.AndOf, Args: room}}}
	got, e := kleene.Simplify(empty, []api.Truth{})
	if e != api.OK || !same(got, and(k(U), v(0), v(1))) {
		t.Errorf("P14.4: %s, %d", shown(got), e)
	}
	needApart(t, "empty lists", got, empty.Args[0])
	for _, f := range []api.Formula{{Args: room}, {Op: api.Var, Args: room}} {
		if got, e := kleene.Simplify(f, nil); e != api.OK || cap(got.Args) > 0 {
			t.Errorf("P14.9: the spare room of %s was answered", shown(f))
		}
	}
}

// TestApart: what a call answers hangs on its arguments alone, whatever was asked ahead.
func TestApart(t *testing.T) {
	var first []api.Formula
	for range 2 {
		for i, f := range manyFormulas(t) {
			got, _ := kleene.Simplify(f, []api.Truth{U, T})
			kleene.Simplify(f, []api.Truth{F, F, F, F, F})
			kleene.Simplify(k(9), []api.Truth{9})
			kleene.Eval(f, []api.Truth{T, T, T, T, T})
			if i == len(first) {
				first = append(first, got)
			} else if !same(got, first[i]) {
				t.Fatalf("P14.9: %s: %s, and first %s", shown(f), shown(got), shown(first[i]))
			}
		}
	}
}
