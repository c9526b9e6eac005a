package net

import (
	"strings"

	"gimlet/api"
)

// compiler makes the net of a path that has passed layer 11's Check, so that every Op has its place in kinds, and nothing is nested deep.
type compiler struct {
	net    api.Net
	wheres [][]api.Expr // of each row the predicates that it gets when it is come to
	kinds  []func(*compiler, api.Expr) api.Pred
}

func newCompiler() *compiler { return &compiler{kinds: kinds()} }

// kinds: what an expression of each Op compiles to, but its Op.
func kinds() []func(*compiler, api.Expr) api.Pred {
	return []func(*compiler, api.Expr) api.Pred{
		api.And:  (*compiler).joined,
		api.Or:   (*compiler).joined,
		api.Not:  (*compiler).joined,
		api.Some: (*compiler).some,
	}
}

func (c *compiler) query(p api.Path) api.Net {
	_, c.net.Main = c.path(p)
	for row := 0; row < len(c.net.Rows); row++ {
		// Not in one assignment: the expressions add rows, by which all rows may be moved.
		preds := c.exprs(c.wheres[row])
		c.net.Rows[row].Preds = preds
	}
	return c.net
}

// path: adds its steps as rows. It answers the number of the first one, and how many they are.
func (c *compiler) path(p api.Path) (first, count int) {
	first = len(c.net.Rows)
	for _, step := range p.Steps {
		c.net.Rows = append(c.net.Rows, api.Row{Axis: step.Axis, Test: step.Test, Name: strings.Clone(step.Name)})
		c.wheres = append(c.wheres, step.Where)
	}
	return first, len(p.Steps)
}

// exprs: adds each of them in turn. It answers their numbers.
func (c *compiler) exprs(list []api.Expr) []int {
	var numbers []int
	for _, x := range list {
		numbers = append(numbers, c.expr(x))
	}
	return numbers
}

// expr: adds it. It has its number ahead of those of its parts.
func (c *compiler) expr(x api.Expr) int {
	number := len(c.net.Preds)
	c.net.Preds = append(c.net.Preds, api.Pred{})
	pred := c.kinds[x.Op](c, x)
	pred.Op = x.Op
	c.net.Preds[number] = pred
	return number
}

func (c *compiler) joined(x api.Expr) api.Pred { return api.Pred{Args: c.exprs(x.Args)} }

func (c *compiler) some(x api.Expr) api.Pred {
	first, count := c.path(x.Path)
	return api.Pred{First: first, Count: count, Attr: strings.Clone(x.Attr), Compare: x.Compare, Text: strings.Clone(x.Text), Number: x.Number}
}
