package ask

import (
	"strings"
	"unicode/utf8"

	"gimlet/api"
	"gimlet/chars"
)

// survey is what a walk through a path has found. The walk gives up where brackets are nested too deep. Of expressions within one another only an And within an Or has none around it, so it never goes far down, whatever it is given.
type survey struct {
	size   int // steps and expressions
	nested int // brackets around what stands within the most of them
}

// look: ErrShape, if it is no query's path.
func look(p api.Path) (survey, api.Errno) {
	var s survey
	if !s.path(p, 0) {
		return survey{}, api.ErrShape
	}
	return s, api.OK
}

// reach: so many brackets are around.
func (s *survey) reach(brackets int) bool {
	s.nested = max(s.nested, brackets)
	return brackets <= api.MaxNested
}

func (s *survey) path(p api.Path, brackets int) bool {
	if len(p.Steps) == 0 || !s.reach(brackets) {
		return false
	}
	for _, step := range p.Steps {
		if !s.step(step, brackets) {
			return false
		}
	}
	return true
}

func (s *survey) step(step api.Step, brackets int) bool {
	s.size++
	if step.Axis < api.Child || step.Axis > api.Self || !isTest(step.Test, step.Name) {
		return false
	}
	for _, x := range step.Where {
		if !s.expr(x, brackets+1) {
			return false
		}
	}
	return true
}

func isTest(test api.Test, name string) bool {
	if test == api.Named {
		return chars.Name(name)
	}
	return test >= api.AnyName && test <= api.AnyNode && name == ""
}

func (s *survey) expr(x api.Expr, brackets int) bool {
	s.size++
	if !s.reach(brackets) {
		return false
	}
	switch x.Op {
	case api.And, api.Or:
		return len(x.Args) >= 2 && isArgsOnly(x) && s.parts(x, brackets)
	case api.Not:
		return len(x.Args) == 1 && isArgsOnly(x) && s.expr(x.Args[0], brackets+1)
	case api.Some:
		return len(x.Args) == 0 && (x.Attr == "" || chars.Name(x.Attr)) && isCompared(x) && s.path(x.Path, brackets+callBrackets(x.Compare))
	}
	return false
}

func (s *survey) parts(x api.Expr, brackets int) bool {
	for _, part := range x.Args {
		around := brackets
		if needsBrackets(x.Op, part.Op) {
			around++
		}
		if !s.expr(part, around) {
			return false
		}
	}
	return true
}

// isArgsOnly: all that Some alone has is zero.
func isArgsOnly(x api.Expr) bool {
	return len(x.Path.Steps) == 0 && x.Attr == "" && x.Compare == api.Exists && x.Text == "" && x.Number == 0
}

// isCompared: the Compare is one, with what it asks for and nothing else.
func isCompared(x api.Expr) bool {
	switch x.Compare {
	case api.Exists:
		return x.Text == "" && x.Number == 0
	case api.Equal, api.Unequal, api.Begins, api.Ends, api.Contains:
		return x.Number == 0 && canBeQuoted(x.Text)
	case api.LengthIs, api.Longer, api.Shorter:
		return x.Text == "" && x.Number >= 0 && x.Number <= api.MaxNumber
	}
	return false
}

func canBeQuoted(text string) bool {
	return utf8.ValidString(text) && !(strings.Contains(text, `"`) && strings.Contains(text, "'"))
}

// callBrackets: how many brackets the comparison puts around the path.
func callBrackets(c api.Compare) int {
	if c >= api.Begins {
		return 1
	}
	return 0
}
