// Package exec carries out plans.
package exec

import (
	"slices"

	"scout/api"
	"scout/plan"
	"scout/query"
	"scout/rows"
)

// flow is the rows of a node, and which column stands in each of their places.
type flow struct {
	rows    rows.Rows
	columns []int
}

func (in flow) place(column int) int {
	return slices.Index(in.columns, column)
}

func (in flow) places(columns []int) []int {
	var places []int
	for _, column := range columns {
		places = append(places, in.place(column))
	}
	return places
}

// work is a fair plan, what plan.Look told of it, and a database that fits.
type work struct {
	facts query.Facts
	nodes []api.Node
	parts []plan.Part
	db    [][][]int
}

// Rows is the rows that come out of a fair plan, of which plan.Look told the parts.
func Rows(f query.Facts, nodes []api.Node, parts []plan.Part, db [][][]int) rows.Rows {
	w := work{facts: f, nodes: nodes, parts: parts, db: db}
	return w.output(nodes[len(nodes)-1])
}

// output is the rows of a node of those that stand at a plan's end.
func (w work) output(n api.Node) rows.Rows {
	q := w.facts.Query
	if n.Kind == api.Arrange {
		return rows.Sort(w.output(w.nodes[n.L]), q.Order)
	}
	in := w.flow(w.nodes[n.L])
	switch n.Kind {
	case api.Group:
		return rows.Group(in.rows, in.places(q.Keys), in.places(q.Sums))
	case api.Stream:
		return rows.Stream(in.rows, in.places(q.Keys), in.places(q.Sums))
	}
	return rows.Project(in.rows, in.places(q.Select))
}

// flow is the rows of a node of those whose rows are rows of columns.
func (w work) flow(n api.Node) flow {
	if n.Kind == api.Scan {
		table := w.facts.Query.From[n.Source]
		return flow{rows.Scan(w.db[table]), w.facts.ColumnsOf(n.Source)}
	}
	left := w.flow(w.nodes[n.L])
	switch n.Kind {
	case api.Filter:
		return w.kept(left, n.Clauses)
	case api.Sort:
		return flow{rows.Sort(left.rows, left.places(n.Cols)), left.columns}
	}
	right := w.flow(w.nodes[n.R])
	columns := slices.Concat(left.columns, right.columns)
	return w.kept(flow{w.joined(n, left, right), columns}, n.Clauses)
}

// joined is the rows of both sides together, of a Hash or Merge only those
// with the same key: the others can't be kept.
func (w work) joined(n api.Node, left, right flow) rows.Rows {
	if n.Kind == api.Loop {
		return rows.Loop(left.rows, right.rows)
	}
	leftColumn, rightColumn, _ := plan.KeyColumns(w.facts, n, w.parts[n.L], w.parts[n.R])
	leftKey, rightKey := left.place(leftColumn), right.place(rightColumn)
	if n.Kind == api.Hash {
		return rows.Hash(left.rows, right.rows, leftKey, rightKey)
	}
	return rows.Merge(left.rows, right.rows, leftKey, rightKey)
}

// kept is the rows for which the clauses of these numbers are true.
func (w work) kept(in flow, numbers []int) flow {
	var clauses []api.Clause
	for _, number := range numbers {
		clauses = append(clauses, query.Moved(w.facts.Query.Where[number], in.place))
	}
	keep := func(row rows.Row) bool { return query.Holds(clauses, row) }
	return flow{rows.Filter(in.rows, keep), in.columns}
}
