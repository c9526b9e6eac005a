package kleene_test

import (
	"slices"
	"strings"
	"testing"

	"gimlet/api"
	"gimlet/kleene"
)

// turned: the text with AndOf and OrOf, True and False in each other's place: what OrOf does likewise.
func turned(text string) string {
	return strings.NewReplacer("and", "or", "or", "and", "T", "F", "F", "T").Replace(text)
}

// TestLeaves: Const and Var, with each value, and beyond the list.
func TestLeaves(t *testing.T) {
	values := []api.Truth{F, U, T}
	for _, r := range [][2]string{{"F", "F"}, {"U", "U"}, {"T", "T"}, {"v0", "F"}, {"v1", "v1"}, {"v2", "T"}, {"v3", "v3"}, {"v65535", "v65535"}} {
		needText(t, r[0], values, r[1])
		needText(t, r[0], nil, r[0])
		needText(t, r[0], []api.Truth{}, r[0])
		needText(t, r[0], []api.Truth{U, U, U, U}, r[0])
	}
}

func TestNotOf(t *testing.T) {
	for _, r := range [][2]string{
		{"not(F)", "T"}, {"not(U)", "U"}, {"not(T)", "F"}, {"not(v0)", "not(v0)"}, {"not(not(v0))", "v0"}, {"not(not(not(v0)))", "not(v0)"}, {"not(not(not(not(v0))))", "v0"}, {"not(not(F))", "F"}, {"not(not(U))", "U"}, {"not(not(not(T)))", "F"},
		{"not(and(v0 v1))", "not(and(v0 v1))"}, {"not(or(v1 v0))", "not(or(v0 v1))"}, {"not(not(and(v1 v0)))", "and(v0 v1)"}, {"not(and(not(v0)))", "v0"}, {"not(or(not(v0) not(v0)))", "v0"}, {"not(and(T not(and(v1 v0))))", "and(v0 v1)"}, {"not(and())", "F"}, {"not(or())", "T"}, {"not(and(v0 F))", "T"}, {"not(or(v0 T))", "F"},
		{"not(and(v0 not(v0)))", "not(and(v0 not(v0)))"}, {"not(and(not(v1) not(v0)))", "not(and(not(v0) not(v1)))"}, {"not(and(not(or(v3 v2)) v1))", "not(and(v1 not(or(v2 v3))))"},
	} {
		needText(t, r[0], nil, r[1])
	}
	needText(t, "not(v0)", []api.Truth{T}, "F")
	needText(t, "not(v0)", []api.Truth{F}, "T")
	needText(t, "not(v0)", []api.Truth{U}, "not(v0)")
	needText(t, "not(and(v0 not(v1)))", []api.Truth{T}, "v1")
}

// TestJoins: each rule of AndOf, and of OrOf the same, turned about.
func TestJoins(t *testing.T) {
	for _, r := range [][2]string{
		// none, one, several
		{"and()", "T"}, {"and(v0)", "v0"}, {"and(v0 v1)", "and(v0 v1)"}, {"and(v0 v1 v2)", "and(v0 v1 v2)"}, {"and(not(v0))", "not(v0)"}, {"and(or(v0 v1))", "or(v0 v1)"}, {"and(and(v0 v1))", "and(v0 v1)"}, {"and(and())", "T"}, {"and(or())", "F"}, {"and(and() and())", "T"}, {"and(v0 and())", "v0"}, {"and(v0 or())", "F"}, {"and(and() v0 and() v1 and())", "and(v0 v1)"},
		// those that change nothing: alone, first, last, all through
		{"and(T)", "T"}, {"and(T T T)", "T"}, {"and(T v0)", "v0"}, {"and(v0 T)", "v0"}, {"and(T v0 v1)", "and(v0 v1)"}, {"and(v0 T v1)", "and(v0 v1)"}, {"and(v0 v1 T)", "and(v0 v1)"}, {"and(T v0 T T v1 T)", "and(v0 v1)"}, {"and(not(F) v0)", "v0"}, {"and(or(T v1) v0)", "v0"},
		// those that settle it
		{"and(F)", "F"}, {"and(F F)", "F"}, {"and(F v0)", "F"}, {"and(v0 F)", "F"}, {"and(v0 F v1)", "F"}, {"and(F v0 F v1 F)", "F"}, {"and(T F)", "F"}, {"and(F T)", "F"}, {"and(T F T)", "F"}, {"and(U F)", "F"}, {"and(F U)", "F"}, {"and(not(T) v0)", "F"}, {"and(v0 and(v1 F))", "F"}, {"and(v0 and(v1 and(v2 F)))", "F"},
		// those that stay
		{"and(U)", "U"}, {"and(U U)", "U"}, {"and(U v0)", "and(U v0)"}, {"and(v0 U)", "and(U v0)"}, {"and(v0 U v1)", "and(U v0 v1)"}, {"and(U v0 U v1 U)", "and(U v0 v1)"}, {"and(U T)", "U"}, {"and(T U T)", "U"}, {"and(not(U) v0)", "and(U v0)"},
		// in one of the same kind, and of the other
		{"and(v0 and(v1 v2))", "and(v0 v1 v2)"}, {"and(and(v1 v2) v0)", "and(v0 v1 v2)"}, {"and(and(v3 v0) and(v2 v1))", "and(v0 v1 v2 v3)"}, {"and(and(and(and(v1 v0) v2) v3) v4)", "and(v0 v1 v2 v3 v4)"}, {"and(v4 and(v3 and(v2 and(v1 v0))))", "and(v0 v1 v2 v3 v4)"}, {"and(and(v0 v1 v2) v3 and(v4))", "and(v0 v1 v2 v3 v4)"}, {"and(v0 and(T U))", "and(U v0)"}, {"and(v0 not(not(and(v2 v1))))", "and(v0 v1 v2)"}, {"and(v0 or(and(v2 v1)))", "and(v0 v1 v2)"}, {"and(v0 or(F and(v2 v1) F))", "and(v0 v1 v2)"}, {"and(v0 or(and(v2 v1) and(v1 v2)))", "and(v0 v1 v2)"},
		{"and(or(v1 v0) v2)", "and(v2 or(v0 v1))"}, {"and(or(v2 v3) or(v1 v0))", "and(or(v0 v1) or(v2 v3))"}, {"and(or(and(v1 v0) v2) v3)", "and(v3 or(v2 and(v0 v1)))"}, {"and(v0 or(v1 and(v2 or(v4 v3))))", "and(v0 or(v1 and(v2 or(v3 v4))))"}, {"and(not(and(v1 v0)) v2)", "and(v2 not(and(v0 v1)))"},
		// those that stand several times
		{"and(v0 v0)", "v0"}, {"and(v0 v0 v0)", "v0"}, {"and(v1 v0 v1)", "and(v0 v1)"}, {"and(v0 v1 v0 v1)", "and(v0 v1)"}, {"and(v0 and(v1 v0))", "and(v0 v1)"}, {"and(and(v0 v1) and(v1 v0))", "and(v0 v1)"}, {"and(not(v0) not(v0))", "not(v0)"}, {"and(or(v0 v1) or(v1 v0))", "or(v0 v1)"}, {"and(or(v0 v1) or(v1 v0 v1))", "or(v0 v1)"}, {"and(v0 not(not(v0)))", "v0"}, {"and(v0 or(v0))", "v0"}, {"and(or(v1 or(v0 v1)) v3 or(v1 v0))", "and(v3 or(v0 v1))"}, {"and(v0 not(v0) v0 not(v0))", "and(v0 not(v0))"},
		// nothing looks at a variable twice
		{"and(v0 not(v0))", "and(v0 not(v0))"}, {"and(v0 or(v0 v1))", "and(v0 or(v0 v1))"}, {"and(v0 or(v1 not(v0)))", "and(v0 or(v1 not(v0)))"}, {"and(or(v0 v1) not(or(v0 v1)))", "and(or(v0 v1) not(or(v0 v1)))"}, {"and(U not(and(U v0)))", "and(U not(and(U v0)))"},
	} {
		needText(t, r[0], nil, r[1])
		needText(t, turned(r[0]), nil, turned(r[1]))
		needText(t, "not("+r[0]+")", nil, shown(denied(made(t, r[1]))))
	}
}

// denied: of a simple formula the one of its NotOf.
func denied(f api.Formula) api.Formula {
	switch f.Op {
	case api.Const:
		return k(2 - f.Value)
	case api.NotOf:
		return f.Args[0]
	}
	return not(f)
}

// TestKnown: variables that become known, some and all of them.
func TestKnown(t *testing.T) {
	for _, r := range []struct {
		text   string
		values []api.Truth
		want   string
	}{
		{"and(v0 v1)", []api.Truth{T}, "v1"}, {"and(v0 v1)", []api.Truth{F}, "F"}, {"and(v0 v1)", []api.Truth{U, T}, "v0"}, {"and(v0 v1)", []api.Truth{T, T}, "T"}, {"and(v0 v1)", []api.Truth{U, F}, "F"}, {"and(v0 v1)", []api.Truth{T, T, F}, "T"},
		{"and(v0 v1 v2)", []api.Truth{U, T}, "and(v0 v2)"}, {"and(v0 v0)", []api.Truth{U}, "v0"}, {"and(v0 v0)", []api.Truth{T}, "T"}, {"and(U v0)", []api.Truth{T}, "U"}, {"and(U v0)", []api.Truth{F}, "F"},
		{"and(v0 or(v1 v2))", []api.Truth{T}, "or(v1 v2)"}, {"and(v0 or(v1 v2))", []api.Truth{U, F}, "and(v0 v2)"}, {"and(v0 or(v1 v2))", []api.Truth{U, T}, "v0"}, {"and(v0 or(v1 v2))", []api.Truth{U, F, F}, "F"}, {"and(v3 or(v1 and(v4 v2)))", []api.Truth{U, F}, "and(v2 v3 v4)"},
		{"or(v5 and(v0 or(v4 and(v0 or(v3 v2)))))", []api.Truth{T}, "or(v2 v3 v4 v5)"}, {"or(v5 not(and(v0 not(or(v4 v3)))))", []api.Truth{T}, "or(v3 v4 v5)"}, {"and(or(v0 v1) or(v2 v1))", []api.Truth{F, U, F}, "v1"}, {"and(or(v0 v1 v3) or(v2 v3 v1))", []api.Truth{F, U, F}, "or(v1 v3)"},
		{"or(v0 not(v0))", []api.Truth{T}, "T"}, {"and(v0 not(v0))", []api.Truth{T}, "F"}, {"and(v0 not(v0))", []api.Truth{F}, "F"}, {"not(and(v0 not(v1)))", []api.Truth{F}, "T"}, {"not(and(v0 not(v1)))", []api.Truth{U, T}, "T"}, {"not(and(v0 not(v1)))", []api.Truth{U, F}, "not(v0)"},
	} {
		needText(t, r.text, r.values, r.want)
	}
}

// rising: formulas in the order of formulas, all of them simple.
func rising() []string {
	return []string{
		"U", "v0", "v1", "v2", "v10", "v65535",
		"and(U v0)", "and(U v0 v1)", "and(U v1)", "and(v0 v1)", "and(v0 v1 v2)", "and(v0 v2)", "and(v0 or(v1 v2))", "and(v0 not(v1))", "and(v1 v2)", "and(v1 or(U v0))", "and(or(v0 v1) or(v2 v3))", "and(or(v0 v1) not(v0))", "and(or(v0 v2) not(v0))", "and(not(v0) not(v1))",
		"or(U v0)", "or(U v0 v1)", "or(U v1)", "or(v0 v1)", "or(v0 v1 v2)", "or(v0 v2)", "or(v0 and(v1 v2))", "or(v0 not(v1))", "or(v1 v2)", "or(and(v0 v1) not(v0))", "or(not(v0) not(v1))",
		"not(v0)", "not(v1)", "not(v65535)", "not(and(v0 v1))", "not(and(v0 v1 v2))", "not(and(v1 v2))", "not(or(v0 v1))", "not(or(v0 not(v1)))", "not(or(v1 v2))",
	}
}

// risingFor: those that may be arguments of that kind.
func risingFor(t *testing.T, op api.FormulaOp) []api.Formula {
	var list []api.Formula
	for _, text := range rising() {
		if f := made(t, text); f.Op != op {
			list = append(list, f)
		}
	}
	return list
}

// TestOrder: each two of the order's formulas, both ways; all of them, turned and mixed.
func TestOrder(t *testing.T) {
	for _, op := range []api.FormulaOp{api.AndOf, api.OrOf} {
		list := risingFor(t, op)
		joined := func(args ...api.Formula) api.Formula { return api.Formula{Op: op, Args: args} }
		for i, f := range list {
			for _, g := range list[i+1:] {
				needSimple(t, joined(f, g), nil, joined(f, g))
				needSimple(t, joined(g, f), nil, joined(f, g))
				needSimple(t, joined(g, f, g, f, f), nil, joined(f, g))
			}
		}
		needSimple(t, joined(list...), nil, joined(list...))
		mixed := slices.Concat(list, list, list)
		slices.Reverse(mixed)
		needSimple(t, joined(mixed...), nil, joined(list...))
		for seed := range uint64(200) {
			m := newMaker(seed)
			m.r.Shuffle(len(mixed), func(i, j int) { mixed[i], mixed[j] = mixed[j], mixed[i] })
			needSimple(t, joined(mixed...), nil, joined(list...))
		}
	}
}

// TestEveryOrder: the same arguments in each order they can have, one of them twice.
func TestEveryOrder(t *testing.T) {
	for _, op := range []api.FormulaOp{api.AndOf, api.OrOf} {
		all := risingFor(t, op)
		want := api.Formula{Op: op, Args: []api.Formula{all[0], all[2], all[8], all[15], all[len(all)-1]}}
		for at := range want.Args {
			list := append(slices.Clone(want.Args), want.Args[at])
			everyOrder(list, 0, func() { needSimple(t, api.Formula{Op: op, Args: list}, nil, want) })
		}
	}
}

func everyOrder(list []api.Formula, from int, try func()) {
	if from == len(list) {
		try()
		return
	}
	for i := from; i < len(list); i++ {
		list[from], list[i] = list[i], list[from]
		everyOrder(list, from+1, try)
		list[from], list[i] = list[i], list[from]
	}
}

// ruled: formulas of which each needs one rule (the last ones none), and formulas that hold another one, likewise.
func ruled() []string {
	return []string{
		"F", "U", "T", "v0", "v1", "not(F)", "not(U)", "not(T)", "not(not(v2))", "not(v3)", "and()", "or()", "and(v2)", "or(v3)", "and(T)", "or(F)", "and(T v2)", "or(F v3)", "and(v2 F)", "or(v3 T)", "and(v2 U)", "or(v3 U)", "and(v2 v2)", "or(v3 v3)", "and(v3 v2)", "or(v3 v2)", "and(v2 and(v3 v4))", "or(v2 or(v3 v4))", "and(v2 or(v3 v4))", "or(v2 and(v3 v4))", "and(v2 v3)", "or(v2 v3)",
	}
}

func around() []string {
	return []string{
		"not(X)", "not(not(X))", "and(X)", "or(X)", "and(X X)", "or(X X)", "and(v2 X)", "and(X v2)", "or(v2 X)", "or(X v2)", "and(T X)", "and(X T)", "or(T X)", "or(X T)", "and(F X)", "and(X F)", "or(F X)", "or(X F)", "and(U X)", "or(X U)", "and(v3 X not(X) v2)", "or(v3 X not(X) v2)", "and(and(v5 X) v3)", "or(or(v5 X) v3)", "and(or(v5 X) v3)", "or(and(v5 X) v3)", "and(v5 X v4 X)", "or(v5 X v4 X)", "and(and() X)", "or(or() X)", "and(or() X)", "or(and() X)",
	}
}

// TestTwoRules: every two rules, and every three, one within the other, against the chapter's words.
func TestTwoRules(t *testing.T) {
	values := []api.Truth{F, T}
	for _, inner := range ruled() {
		for _, one := range around() {
			f := strings.ReplaceAll(one, "X", inner)
			needSimple(t, made(t, f), nil, plain(made(t, f), nil))
			for _, two := range around() {
				g := made(t, strings.ReplaceAll(two, "X", f))
				needSimple(t, g, values, plain(g, values))
			}
		}
	}
}

// TestStepByStep: values that come one by one lead where all of them at once lead.
func TestStepByStep(t *testing.T) {
	for seed := range uint64(3000) {
		m := newMaker(seed + 1<<30)
		f := m.formula(4, 4)
		all := []api.Truth{api.Truth(m.r.IntN(3)), api.Truth(m.r.IntN(3)), api.Truth(m.r.IntN(3)), api.Truth(m.r.IntN(3))}
		want, _ := kleene.Simplify(f, all)
		got := f
		for _, at := range m.r.Perm(len(all)) {
			one := []api.Truth{U, U, U, U}
			one[at] = all[at]
			got, _ = kleene.Simplify(got, one)
		}
		if !same(got, want) {
			t.Fatalf("P14.4: %s with %v: %s, and one by one %s", shown(f), all, shown(want), shown(got))
		}
	}
}
