package ask

import "gimlet/api"

// How the kinds of things are written, by their numbers: one table for what is parsed and what is printed.

var axes = [...]string{api.Child: "child", api.Descendant: "descendant", api.OrSelf: "descendant-or-self", api.Self: "self"}

// tests: but a name, which is written as it is.
var tests = [...]string{api.AnyName: "*", api.TextNode: "text()", api.AnyNode: "node()"}

// compares: Equal, Unequal and the lengths are signs behind what is compared, the others the names of calls.
var compares = [...]string{
	api.Equal: "=", api.Unequal: "!=",
	api.Begins: "starts-with", api.Ends: "ends-with", api.Contains: "contains",
	api.LengthIs: "=", api.Longer: ">", api.Shorter: "<",
}

const lengthCall = "string-length"

// here: the step that is written as ".".
func here() api.Step { return api.Step{Axis: api.Self, Test: api.AnyNode} }

func isHere(s api.Step) bool {
	return s.Axis == api.Self && s.Test == api.AnyNode && len(s.Where) == 0
}

// anyDepth: the step that "//" stands for.
func anyDepth() api.Step { return api.Step{Axis: api.OrSelf, Test: api.AnyNode} }

// needsBrackets: a part of an And or an Or that would be read as something else without brackets around it.
func needsBrackets(whole, part api.Op) bool {
	return part == api.Or || part == api.And && whole == api.And
}
