package ask

import (
	"strconv"
	"strings"

	"gimlet/api"
	"gimlet/lexis"
)

// What is written here has passed Check: its kinds are all of the named ones, and Not has its one part.

func writePath(out *strings.Builder, path api.Path) {
	for i, step := range path.Steps {
		if i > 0 {
			out.WriteByte('/')
		}
		writeStep(out, step)
	}
}

func writeStep(out *strings.Builder, step api.Step) {
	if isHere(step) {
		out.WriteByte('.')
		return
	}
	if step.Axis != api.Child {
		out.WriteString(axes[step.Axis])
		out.WriteString("::")
	}
	if step.Test == api.Named {
		out.WriteString(step.Name)
	} else {
		out.WriteString(tests[step.Test])
	}
	for _, x := range step.Where {
		out.WriteByte('[')
		writeExpr(out, x)
		out.WriteByte(']')
	}
}

func writeExpr(out *strings.Builder, x api.Expr) {
	switch x.Op {
	case api.And:
		writeParts(out, x, " and ")
	case api.Or:
		writeParts(out, x, " or ")
	case api.Not:
		out.WriteString("not(")
		writeExpr(out, x.Args[0])
		out.WriteByte(')')
	case api.Some:
		writeSome(out, x)
	}
}

func writeParts(out *strings.Builder, x api.Expr, between string) {
	for i, part := range x.Args {
		if i > 0 {
			out.WriteString(between)
		}
		if needsBrackets(x.Op, part.Op) {
			out.WriteByte('(')
			writeExpr(out, part)
			out.WriteByte(')')
		} else {
			writeExpr(out, part)
		}
	}
}

func writeSome(out *strings.Builder, x api.Expr) {
	switch x.Compare {
	case api.Exists:
		writeCompared(out, x)
	case api.Equal, api.Unequal:
		writeCompared(out, x)
		out.WriteString(compares[x.Compare])
		out.WriteString(inQuotes(x.Text))
	case api.Begins, api.Ends, api.Contains:
		out.WriteString(compares[x.Compare])
		out.WriteByte('(')
		writeCompared(out, x)
		out.WriteByte(',')
		out.WriteString(inQuotes(x.Text))
		out.WriteByte(')')
	case api.LengthIs, api.Longer, api.Shorter:
		out.WriteString(lengthCall)
		out.WriteByte('(')
		writeCompared(out, x)
		out.WriteByte(')')
		out.WriteString(compares[x.Compare])
		out.WriteString(strconv.Itoa(x.Number))
	}
}

// writeCompared: the path of a Some, with its attribute.
func writeCompared(out *strings.Builder, x api.Expr) {
	alone := len(x.Path.Steps) == 1 && isHere(x.Path.Steps[0])
	if x.Attr == "" || !alone {
		writePath(out, x.Path)
	}
	if x.Attr == "" {
		return
	}
	if !alone {
		out.WriteByte('/')
	}
	out.WriteByte('@')
	out.WriteString(x.Attr)
}

// inQuotes: a text as the words of a query have it.
func inQuotes(text string) string {
	return lexis.Print([]api.Word{{Kind: api.WordText, Text: text}})
}
