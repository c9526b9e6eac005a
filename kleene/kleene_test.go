package kleene_test

import (
	"math"
	"slices"
	"testing"

	"gimlet/api"
	"gimlet/kleene"
)

// few: the first ones of a list, to be shown.
func few[E any](list []E) []E { return list[:min(len(list), 20)] }

// needSimple: P14.4, and P14.5 as to the simple form's own simple form.
func needSimple(t *testing.T, f api.Formula, values []api.Truth, want api.Formula) {
	t.Helper()
	got, e := kleene.Simplify(f, values)
	if e != api.OK || !same(got, want) {
		t.Errorf("P14.4: %.300s with %v: %.300s, %d, want %.300s", shown(f), few(values), shown(got), e, shown(want))
	}
	if again, e := kleene.Simplify(got, nil); e != api.OK || !same(again, got) {
		t.Errorf("P14.5: %.300s is simple, and becomes %.300s, %d", shown(got), shown(again), e)
	}
}

func needText(t *testing.T, text string, values []api.Truth, want string) {
	t.Helper()
	needSimple(t, made(t, text), values, made(t, want))
}

func needValue(t *testing.T, text string, values []api.Truth, want api.Truth) {
	t.Helper()
	if got, e := kleene.Eval(made(t, text), values); got != want || e != api.OK {
		t.Errorf("P14.3: %s with %v: %d, %d, want %d", text, few(values), got, e, want)
	}
}

// needShape: each call answers ErrShape, and nothing beside it.
func needShape(t *testing.T, f api.Formula, values []api.Truth) {
	t.Helper()
	if x, e := kleene.Eval(f, values); x != 0 || e != api.ErrShape {
		t.Errorf("P14.3: %.200s with %v: %d, %d", shown(f), few(values), x, e)
	}
	if g, e := kleene.Simplify(f, values); !same(g, api.Formula{}) || e != api.ErrShape {
		t.Errorf("P14.4: %.200s with %v: %.200s, %d", shown(f), few(values), shown(g), e)
	}
}

func needNone(t *testing.T, f api.Formula) {
	t.Helper()
	if e := kleene.Check(f); e != api.ErrShape {
		t.Errorf("P14.2: %.200s: %d", shown(f), e)
	}
	needShape(t, f, nil)
	needShape(t, f, []api.Truth{T, F})
	needShape(t, f, []api.Truth{T, 7})
	if list, e := kleene.Vars(f); len(list) > 0 || e != api.ErrShape {
		t.Errorf("P14.7: Vars of %.200s: %v, %d", shown(f), list, e)
	}
	if n, e := kleene.Size(f); n != 0 || e != api.ErrShape {
		t.Errorf("P14.7: Size of %.200s: %d, %d", shown(f), n, e)
	}
}

func TestExamples(t *testing.T) {
	if kleene.And() != T || kleene.Or() != F || kleene.And(T, U) != U || kleene.Or(T, U) != T || kleene.Not(7) != U {
		t.Error("P14.1")
	}
	for _, f := range []api.Formula{v(65536), v(-1), {Op: api.NotOf}, k(3), {Op: api.AndOf, Var: 1}} {
		needNone(t, f)
	}
	needValue(t, "and(v0 not(v1))", []api.Truth{T}, U)
	needValue(t, "and(v0 not(v1))", []api.Truth{T, F}, T)
	needShape(t, v(0), []api.Truth{7})
	needText(t, "or(or(v1 or(v0 F)) v0)", nil, "or(v0 v1)")
	needText(t, "and(v1 and(U v0))", nil, "and(U v0 v1)")
	needText(t, "or(v0 not(v0))", nil, "or(v0 not(v0))")
	needText(t, "or(v0 not(v0))", []api.Truth{U}, "or(v0 not(v0))")
	needText(t, "or(v0 not(v0))", []api.Truth{F}, "T")
	needText(t, "not(not(v3))", nil, "v3")
	needText(t, "and()", nil, "T")
	needText(t, "not(U)", nil, "U")
	needText(t, "and(v0 or(v1 v0))", []api.Truth{T}, "T")
	f := made(t, "and(v2 or(v0 not(v2)))")
	list, e := kleene.Vars(f)
	n, g := kleene.Size(f)
	if !slices.Equal(list, []int{0, 2}) || e != api.OK || n != 6 || g != api.OK {
		t.Errorf("P14.7: %v, %d; %d, %d", list, e, n, g)
	}
}

// TestTables: P14.1, each value beside each.
func TestTables(t *testing.T) {
	for i, r := range []struct{ x, y, and, or api.Truth }{
		{F, F, F, F}, {F, U, F, U}, {F, T, F, T}, {U, F, F, U}, {U, U, U, U}, {U, T, U, T}, {T, F, F, T}, {T, U, U, T}, {T, T, T, T},
		{F, 3, F, U}, {3, F, F, U}, {U, 3, U, U}, {3, U, U, U}, {T, 3, U, T}, {3, T, U, T}, {3, 3, U, U}, {-1, F, F, U}, {F, -1, F, U}, {-1, T, U, T}, {T, -1, U, T}, {-1, 3, U, U}, {3, -1, U, U},
	} {
		if a, o := kleene.And(r.x, r.y), kleene.Or(r.x, r.y); a != r.and || o != r.or {
			t.Errorf("P14.1: row %d: %d, %d", i, a, o)
		}
	}
	for _, x := range []api.Truth{F, U, T} {
		if kleene.And(x) != x || kleene.Or(x) != x {
			t.Errorf("P14.1: of %d alone", x)
		}
	}
	if kleene.Not(F) != T || kleene.Not(U) != U || kleene.Not(T) != F {
		t.Error("P14.1: Not")
	}
	for _, x := range wrongTruths() {
		if kleene.Not(x) != U || kleene.And(x) != U || kleene.Or(x) != U {
			t.Errorf("P14.1: of %d", x)
		}
	}
}

// TestLists: P14.1, of all short lists, and of long ones.
func TestLists(t *testing.T) {
	if kleene.And(nil...) != T || kleene.Or(nil...) != F || kleene.And([]api.Truth{}...) != T || kleene.Or([]api.Truth{}...) != F {
		t.Error("P14.1: of none")
	}
	for n := range 6 {
		for _, list := range valueLists(n, F, U, T, 3, -1, math.MinInt, math.MaxInt) {
			needAndOr(t, list)
		}
	}
	for _, x := range []api.Truth{F, U, T, 7, -7} {
		for _, among := range []api.Truth{F, U, T, 9, -9} {
			for _, at := range []int{0, 1, 49999, 99998, 99999} {
				list := slices.Repeat([]api.Truth{among}, 100000)
				list[at] = x
				needAndOr(t, list)
			}
		}
	}
}

func needAndOr(t *testing.T, list []api.Truth) {
	t.Helper()
	before := slices.Clone(list)
	hasFalse, hasTrue := slices.Contains(list, F), slices.Contains(list, T)
	isAll := func(x api.Truth) bool {
		return !slices.ContainsFunc(list, func(y api.Truth) bool { return x != y })
	}
	wantAnd, wantOr := U, U
	switch {
	case hasFalse:
		wantAnd = F
	case isAll(T):
		wantAnd = T
	}
	switch {
	case hasTrue:
		wantOr = T
	case isAll(F):
		wantOr = F
	}
	if a, o := kleene.And(list...), kleene.Or(list...); a != wantAnd || o != wantOr {
		t.Errorf("P14.1: of %d: %v: %d, %d, want %d, %d", len(list), few(list), a, o, wantAnd, wantOr)
	}
	if !slices.Equal(list, before) {
		t.Errorf("P14.9: %v was changed", few(before))
	}
}

func TestCheck(t *testing.T) {
	for _, wrong := range wrongOnes() {
		for _, f := range wrongWithin(wrong) {
			needNone(t, f)
		}
	}
	for _, f := range []api.Formula{
		{}, k(F), k(U), k(T), v(0), v(1), v(api.MaxVars - 1), and(), or(), and(and()), or(or()), not(and()), not(or()), and(v(0)), or(v(0)), not(v(0)), not(not(not(k(U)))),
		and(v(0), v(0), v(0)), or(v(api.MaxVars-1), k(T), and(), not(or(v(3)))), and(slices.Repeat([]api.Formula{v(7)}, 1000)...),
		{Args: []api.Formula{}}, {Op: api.Var, Args: []api.Formula{}}, {Op: api.AndOf, Args: []api.Formula{}}, {Op: api.OrOf, Args: []api.Formula{{Args: []api.Formula{}}}},
	} {
		if e := kleene.Check(f); e != api.OK {
			t.Errorf("P14.2: %.200s: %d", shown(f), e)
		}
	}
}

// TestWrongValues: a value that is none of the three, wherever it stands, whether a variable has it or not.
func TestWrongValues(t *testing.T) {
	for _, text := range []string{"v0", "v2", "T", "F", "and()", "or(v1 T)", "and(v0 F)", "not(v3)"} {
		for _, wrong := range wrongTruths() {
			for _, values := range [][]api.Truth{{wrong}, {wrong, T}, {T, wrong}, {F, U, wrong}, {F, U, T, F, wrong}, append(slices.Repeat([]api.Truth{T}, api.MaxVars+5), wrong)} {
				needShape(t, made(t, text), values)
			}
		}
	}
}

func TestEval(t *testing.T) {
	values := []api.Truth{F, U, T}
	for _, r := range []struct {
		text string
		want api.Truth
	}{
		{"F", F}, {"U", U}, {"T", T}, {"v0", F}, {"v1", U}, {"v2", T}, {"v3", U}, {"v65535", U},
		{"and()", T}, {"or()", F}, {"and(F)", F}, {"and(U)", U}, {"and(T)", T}, {"or(F)", F}, {"or(U)", U}, {"or(T)", T}, {"not(F)", T}, {"not(U)", U}, {"not(T)", F}, {"not(v0)", T}, {"not(v1)", U}, {"not(v2)", F}, {"not(v9)", U},
		{"and(v1 v0)", F}, {"and(v2 v1)", U}, {"and(v2 T v2)", T}, {"or(v1 v2)", T}, {"or(v0 v1)", U}, {"or(v0 F v0)", F}, {"and(v2 v2 v2 v2 v0)", F}, {"or(v0 v0 v0 v2)", T},
		{"and(or() v2)", F}, {"or(and() v0)", T}, {"not(and())", F}, {"not(or())", T}, {"or(v1 not(v1))", U}, {"and(v1 not(v1))", U}, {"or(v0 not(v0))", T}, {"and(v0 not(v0))", F}, {"not(and(v1 not(or(v0 v2))))", T}, {"and(v2 or(v3 v2))", T}, {"and(v5 or(v6 v0))", U},
	} {
		needValue(t, r.text, values, r.want)
		needValue(t, r.text, append(slices.Clone(values), slices.Repeat([]api.Truth{U}, 70000)...), r.want)
	}
	long := append(slices.Repeat([]api.Truth{U}, api.MaxVars-1), T)
	needValue(t, "v65535", long, T)
	needValue(t, "v65535", append(slices.Clone(long), F, F, F), T)
	needValue(t, "v65535", long[:api.MaxVars-1], U)
	needValue(t, "v65534", long, U)
	needText(t, "and(v65535 v65534)", long, "v65534")
	needText(t, "and(v65535 v65534)", long[:api.MaxVars-1], "and(v65534 v65535)")
}

func TestVarsAndSize(t *testing.T) {
	for _, r := range []struct {
		text string
		vars []int
		size int
	}{
		{"F", nil, 1}, {"U", nil, 1}, {"T", nil, 1}, {"v0", []int{0}, 1}, {"v65535", []int{65535}, 1}, {"and()", nil, 1}, {"or()", nil, 1}, {"not(T)", nil, 2}, {"not(v1)", []int{1}, 2}, {"not(not(v1))", []int{1}, 3},
		{"and(v1 v0)", []int{0, 1}, 3}, {"and(v0 v0)", []int{0}, 3}, {"or(v9 v3 v9 v4 v3)", []int{3, 4, 9}, 6}, {"and(and() or() F)", nil, 4}, {"or(and(v5 not(v65535)) or(v0 v5) not(and(v7 v6)))", []int{0, 5, 6, 7, 65535}, 12}, {"and(and(and(and(v2))))", []int{2}, 5}, {"or(v1 T not(v1))", []int{1}, 5},
	} {
		f := made(t, r.text)
		if list, e := kleene.Vars(f); !slices.Equal(list, r.vars) || e != api.OK {
			t.Errorf("P14.7: Vars of %s: %v, %d", r.text, list, e)
		}
		if n, e := kleene.Size(f); n != r.size || e != api.OK {
			t.Errorf("P14.7: Size of %s: %d, %d", r.text, n, e)
		}
	}
}
