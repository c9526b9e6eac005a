package kleene_test

import (
	"math"
	"math/rand/v2"
	"slices"
	"strconv"
	"strings"
	"testing"

	"gimlet/api"
)

// What follows makes formulas, and lists of values.

const (
	F = api.False
	U = api.Unknown
	T = api.True
)

func k(t api.Truth) api.Formula { return api.Formula{Op: api.Const, Value: t} }

func v(n int) api.Formula { return api.Formula{Op: api.Var, Var: n} }

func and(list ...api.Formula) api.Formula { return api.Formula{Op: api.AndOf, Args: list} }

func or(list ...api.Formula) api.Formula { return api.Formula{Op: api.OrOf, Args: list} }

func not(f api.Formula) api.Formula {
	return api.Formula{Op: api.NotOf, Args: []api.Formula{f}}
}

// wrapped: f within that many of what around makes.
func wrapped(n int, f api.Formula, around func(int, api.Formula) api.Formula) api.Formula {
	for i := range n {
		f = around(i, f)
	}
	return f
}

// made: the formula of a text such as "and(v0 or(F U) not(v1))".
func made(t testing.TB, text string) api.Formula {
	t.Helper()
	words := strings.Fields(strings.NewReplacer("(", " ( ", ")", " ) ").Replace(text))
	f, rest := readOne(words)
	if len(rest) > 0 || shown(f) != text {
		t.Fatalf("%q is no text of a formula", text)
	}
	return f
}

func readOne(words []string) (api.Formula, []string) {
	word, rest := words[0], words[1:]
	if at := strings.Index("FUT", word); at >= 0 {
		return k(api.Truth(at)), rest
	}
	if n, err := strconv.Atoi(word[1:]); err == nil {
		return v(n), rest
	}
	f := api.Formula{Op: map[string]api.FormulaOp{"and": api.AndOf, "or": api.OrOf, "not": api.NotOf}[word]}
	for rest = rest[1:]; rest[0] != ")"; {
		var a api.Formula
		a, rest = readOne(rest)
		f.Args = append(f.Args, a)
	}
	return f, rest[1:]
}

// shown: the text of a formula; of what is none something, too, if it doesn't hold itself.
func shown(f api.Formula) string {
	var out strings.Builder
	show(&out, f)
	return out.String()
}

func show(out *strings.Builder, f api.Formula) {
	switch {
	case f.Op == api.Const && f.Value >= F && f.Value <= T && f.Var == 0 && len(f.Args) == 0:
		out.WriteByte("FUT"[f.Value])
		return
	case f.Op == api.Var && f.Value == 0 && len(f.Args) == 0:
		out.WriteString("v" + strconv.Itoa(f.Var))
		return
	case f.Op >= api.AndOf && f.Op <= api.NotOf && f.Value == 0 && f.Var == 0:
		out.WriteString([]string{"and", "or", "not"}[f.Op-api.AndOf])
	default:
		out.WriteString("{" + strconv.Itoa(int(f.Op)) + " " + strconv.Itoa(int(f.Value)) + " " + strconv.Itoa(f.Var) + "}")
	}
	out.WriteByte('(')
	for i, a := range f.Args {
		if i > 0 {
			out.WriteByte(' ')
		}
		show(out, a)
	}
	out.WriteByte(')')
}

// key: numbers that come in the order of formulas, and are the same just where the formulas are.
func key(f api.Formula) []int { return addKey(nil, f) }

func addKey(list []int, f api.Formula) []int {
	list = append(list, int(f.Op), int(f.Value), f.Var)
	for _, a := range f.Args {
		list = addKey(append(list, 1), a)
	}
	return append(list, 0) // ahead of every list that goes on
}

func same(f, g api.Formula) bool { return slices.Equal(key(f), key(g)) }

// shorts: all formulas of just that size, of the three constants and so many variables.
func shorts(size, vars int) []api.Formula { return newShorts(vars).ofSize(size) }

type shortOnes struct {
	vars  int
	ones  map[int][]api.Formula
	lists map[int][][]api.Formula
}

func newShorts(vars int) *shortOnes {
	return &shortOnes{vars, map[int][]api.Formula{}, map[int][][]api.Formula{}}
}

func (s *shortOnes) ofSize(n int) []api.Formula {
	if list, isThere := s.ones[n]; isThere {
		return list
	}
	var list []api.Formula
	if n == 1 {
		list = append(list, k(F), k(U), k(T))
		for i := range s.vars {
			list = append(list, v(i))
		}
	} else {
		for _, f := range s.ofSize(n - 1) {
			list = append(list, not(f))
		}
	}
	for _, args := range s.listsOf(n - 1) {
		list = append(list, and(args...), or(args...))
	}
	s.ones[n] = list
	return list
}

// listsOf: all lists of formulas that have so many formulas in all.
func (s *shortOnes) listsOf(n int) [][]api.Formula {
	if n == 0 {
		return [][]api.Formula{nil}
	}
	if list, isThere := s.lists[n]; isThere {
		return list
	}
	var list [][]api.Formula
	for first := 1; first <= n; first++ {
		for _, rest := range s.listsOf(n - first) {
			for _, f := range s.ofSize(first) {
				list = append(list, append([]api.Formula{f}, rest...))
			}
		}
	}
	s.lists[n] = list
	return list
}

// valueLists: all lists of that many of these values.
func valueLists(n int, of ...api.Truth) [][]api.Truth {
	lists := [][]api.Truth{nil}
	for range n {
		var longer [][]api.Truth
		for _, list := range lists {
			for _, t := range of {
				longer = append(longer, append(slices.Clone(list), t))
			}
		}
		lists = longer
	}
	return lists
}

// maker makes things by chance, the same ones each time.
type maker struct{ r *rand.Rand }

func newMaker(seed uint64) maker { return maker{rand.New(rand.NewPCG(seed, 14))} }

func (m maker) formula(deep, vars int) api.Formula {
	if deep == 0 || m.r.IntN(6) == 0 {
		if m.r.IntN(4) == 0 {
			return k(api.Truth(m.r.IntN(3)))
		}
		return v(m.r.IntN(vars))
	}
	if m.r.IntN(4) == 0 {
		return not(m.formula(deep-1, vars))
	}
	f := api.Formula{Op: api.AndOf + api.FormulaOp(m.r.IntN(2))}
	for range m.r.IntN(5) {
		f.Args = append(f.Args, m.formula(deep-1, vars))
	}
	for len(f.Args) > 0 && m.r.IntN(4) == 0 {
		f.Args = append(f.Args, f.Args[m.r.IntN(len(f.Args))])
	}
	return f
}

func (m maker) values(most int) []api.Truth {
	var list []api.Truth
	for range m.r.IntN(most + 1) {
		list = append(list, pick(m, []api.Truth{F, U, U, T}))
	}
	return list
}

func pick[E any](m maker, list []E) E { return list[m.r.IntN(len(list))] }

// wrongTruths: those that are none of the three.
func wrongTruths() []api.Truth {
	return []api.Truth{-1, 3, 4, 7, -2, 256, 1 << 32, math.MinInt, math.MaxInt}
}

// wrongOnes: what is no formula, each for one reason.
func wrongOnes() []api.Formula {
	some := []api.Formula{v(0)}
	list := []api.Formula{
		{Op: api.Var, Var: -1}, {Op: api.Var, Var: api.MaxVars}, {Op: api.Var, Var: api.MaxVars + 1}, {Op: api.Var, Var: math.MinInt}, {Op: api.Var, Var: math.MaxInt}, {Op: api.Var, Var: 1 << 32},
		{Op: api.Const, Var: 1}, {Op: api.Const, Value: U, Var: -1}, {Op: api.Const, Value: T, Var: math.MinInt}, {Op: api.Const, Args: some}, {Op: api.Const, Value: T, Args: some}, {Op: api.Const, Value: U, Args: []api.Formula{{}, {}}},
		{Op: api.Var, Value: U}, {Op: api.Var, Value: T}, {Op: api.Var, Var: 5, Value: -1}, {Op: api.Var, Args: some}, {Op: api.Var, Var: api.MaxVars - 1, Args: some}, {Op: api.Var, Var: 1, Args: []api.Formula{{}}},
		{Op: api.NotOf}, {Op: api.NotOf, Args: []api.Formula{}}, {Op: api.NotOf, Args: []api.Formula{v(0), v(1)}}, {Op: api.NotOf, Args: []api.Formula{v(0), v(0)}}, {Op: api.NotOf, Args: []api.Formula{k(F), k(F), k(F)}},
	}
	for _, t := range wrongTruths() {
		list = append(list, k(t))
	}
	for op := api.AndOf; op <= api.NotOf; op++ {
		for _, n := range []int{1, -1, api.MaxVars, math.MinInt, math.MaxInt} {
			list = append(list, api.Formula{Op: op, Value: api.Truth(n), Args: some}, api.Formula{Op: op, Var: n, Args: some})
		}
	}
	list = append(list, api.Formula{Op: api.AndOf, Var: 1}, api.Formula{Op: api.AndOf, Value: T}, api.Formula{Op: api.OrOf, Var: 1}, api.Formula{Op: api.OrOf, Value: U})
	for _, op := range []api.FormulaOp{-1, 5, 6, -5, 256, 1 << 32, math.MinInt, math.MaxInt} {
		list = append(list, api.Formula{Op: op}, api.Formula{Op: op, Args: some}, api.Formula{Op: op, Value: U}, api.Formula{Op: op, Var: 1}, api.Formula{Op: op, Args: []api.Formula{v(0), v(1)}})
	}
	return list
}

// wrongWithin: formulas that hold f, also where a simple form would leave it out.
func wrongWithin(f api.Formula) []api.Formula {
	return []api.Formula{
		f, not(f), not(not(f)), and(f), or(f), and(v(0), f), and(f, v(0)), or(v(0), f), or(f, v(0)), and(k(F), f), or(k(T), f), and(f, k(F)), or(f, k(T)), and(and(v(0), v(1)), or(v(2), not(and(f)))),
		and(f, f), or(v(0), v(1), v(2), f, v(3), v(4)),
	}
}
