package net

import (
	"strconv"
	"strings"

	"gimlet/api"
)

// How the kinds of things are written, by their numbers. What is written here has passed Check: its kinds are all of the named ones.

var axes = [...]string{api.Child: "child", api.Descendant: "descendant", api.OrSelf: "descendant-or-self", api.Self: "self"}

// tests: but a name, which is written as it is.
var tests = [...]string{api.AnyName: "*", api.TextNode: "text()", api.AnyNode: "node()"}

// ops: but Some, which is told by its rows.
var ops = [...]string{api.And: "and", api.Or: "or", api.Not: "not"}

// compares: of Exists nothing is written.
var compares = [...]string{
	api.Equal: " = ", api.Unequal: " != ",
	api.Begins: " starts-with ", api.Ends: " ends-with ", api.Contains: " contains ",
	api.LengthIs: " length = ", api.Longer: " length > ", api.Shorter: " length < ",
}

func write(n api.Net) string {
	var out strings.Builder
	out.WriteString("main " + strconv.Itoa(n.Main) + "\n")
	for number, row := range n.Rows {
		out.WriteString("row " + strconv.Itoa(number) + ": ")
		writeRow(&out, row)
		out.WriteByte('\n')
	}
	for number, pred := range n.Preds {
		out.WriteString("pred " + strconv.Itoa(number) + ": ")
		writePred(&out, pred)
		out.WriteByte('\n')
	}
	return out.String()
}

func writeRow(out *strings.Builder, row api.Row) {
	out.WriteString(axes[row.Axis] + "::")
	if row.Test == api.Named {
		out.WriteString(row.Name)
	} else {
		out.WriteString(tests[row.Test])
	}
	writeNumbers(out, row.Preds)
}

func writePred(out *strings.Builder, pred api.Pred) {
	if pred.Op != api.Some {
		out.WriteString(ops[pred.Op])
		writeNumbers(out, pred.Args)
		return
	}
	out.WriteString("some")
	writeNumbers(out, []int{pred.First, pred.Count})
	if pred.Attr != "" {
		out.WriteString(" @" + pred.Attr)
	}
	writeCompare(out, pred)
}

// writeNumbers: each with a space in front of it.
func writeNumbers(out *strings.Builder, numbers []int) {
	for _, number := range numbers {
		out.WriteString(" " + strconv.Itoa(number))
	}
}

func writeCompare(out *strings.Builder, pred api.Pred) {
	switch {
	case pred.Compare >= api.LengthIs:
		out.WriteString(compares[pred.Compare] + strconv.Itoa(pred.Number))
	case pred.Compare >= api.Equal:
		out.WriteString(compares[pred.Compare] + inQuotes(pred.Text))
	}
}

// inQuotes: double ones, but where the text holds one.
func inQuotes(text string) string {
	if strings.Contains(text, `"`) {
		return "'" + text + "'"
	}
	return `"` + text + `"`
}
