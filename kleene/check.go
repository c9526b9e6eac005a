package kleene

import (
	"slices"

	"gimlet/api"
)

// deepest is how many formulas within one another are gone through. The document promises nothing of more than half as many; a value that holds itself has no end, and would never be found out otherwise.
const deepest = 1 << 17

// Check: is it a formula? ErrShape.
func Check(f api.Formula) api.Errno {
	if !isFormula(f, deepest) {
		return api.ErrShape
	}
	return api.OK
}

// checkWith: is it a formula, and are all of the values, used or not, of the three?
func checkWith(f api.Formula, values []api.Truth) api.Errno {
	if slices.ContainsFunc(values, isNone) {
		return api.ErrShape
	}
	return Check(f)
}

func isNone(t api.Truth) bool { return !isTruth(t) }

func isFormula(f api.Formula, room int) bool {
	if room == 0 {
		return false
	}
	switch f.Op {
	case api.Const:
		return isTruth(f.Value) && f.Var == 0 && len(f.Args) == 0
	case api.Var:
		return f.Value == 0 && f.Var >= 0 && f.Var < api.MaxVars && len(f.Args) == 0
	case api.AndOf, api.OrOf:
		return f.Value == 0 && f.Var == 0 && areFormulas(f.Args, room-1)
	case api.NotOf:
		return f.Value == 0 && f.Var == 0 && len(f.Args) == 1 && areFormulas(f.Args, room-1)
	}
	return false
}

func areFormulas(list []api.Formula, room int) bool {
	for _, f := range list {
		if !isFormula(f, room) {
			return false
		}
	}
	return true
}
