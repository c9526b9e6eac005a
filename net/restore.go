package net

import (
	"strings"

	"gimlet/api"
)

// restorer makes a path of any net whose rows and preds each belong to no more than one thing, and those that belong to a pred stand behind it, or belong to such rows. It goes through the preds from the last one to the first: what belongs to one is there already then, and nothing leads round in a circle.
type restorer struct {
	net       api.Net
	exprs     []api.Expr
	exprTaken []bool
	stepTaken []bool
}

// restore: false where the numbers lead to no path. A path is still to be checked, and the net to be held against its net.
func restore(n api.Net) (api.Path, bool) {
	r := &restorer{
		net:       n,
		exprs:     make([]api.Expr, len(n.Preds)),
		exprTaken: make([]bool, len(n.Preds)),
		stepTaken: make([]bool, len(n.Rows)),
	}
	for number := len(n.Preds) - 1; number >= 0; number-- {
		if !r.expr(number) {
			return api.Path{}, false
		}
	}
	return r.path(0, n.Main, 0)
}

// expr: of the pred of that number; its Op isn't looked at.
func (r *restorer) expr(number int) bool {
	pred := r.net.Preds[number]
	args, hasArgs := r.take(pred.Args, number+1)
	path, hasPath := r.path(pred.First, pred.Count, number+1)
	r.exprs[number] = api.Expr{
		Op: pred.Op, Args: args, Path: path,
		Attr: strings.Clone(pred.Attr), Compare: pred.Compare, Text: strings.Clone(pred.Text), Number: pred.Number,
	}
	return hasArgs && hasPath
}

// take: the expressions of these numbers, from the number least on, none of which belongs to anything yet.
func (r *restorer) take(numbers []int, least int) ([]api.Expr, bool) {
	var list []api.Expr
	for _, number := range numbers {
		if number < least || number >= len(r.exprs) || r.exprTaken[number] {
			return nil, false
		}
		r.exprTaken[number] = true
		list = append(list, r.exprs[number])
	}
	return list, true
}

// path: of these rows, none of which belongs to anything yet; the numbers of their preds are from least on.
func (r *restorer) path(first, count, least int) (api.Path, bool) {
	if first < 0 || count < 0 || count > len(r.net.Rows)-first {
		return api.Path{}, false
	}
	var steps []api.Step
	for number := first; number < first+count; number++ {
		row := r.net.Rows[number]
		where, ok := r.take(row.Preds, least)
		if !ok || r.stepTaken[number] {
			return api.Path{}, false
		}
		r.stepTaken[number] = true
		steps = append(steps, api.Step{Axis: row.Axis, Test: row.Test, Name: strings.Clone(row.Name), Where: where})
	}
	return api.Path{Steps: steps}, true
}
