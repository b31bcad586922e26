// Package plan knows what a plan is, which plans are fair, and what they cost.
package plan

import (
	"slices"

	"scout/api"
	"scout/query"
)

// Part is what is known of a node: what stands at it and below it.
type Part struct {
	Kind    int
	Sources query.Set
	Clauses query.Set
	Order   []int // the columns by which its rows are sorted
	Size    uint64
	Cost    uint64
}

// Look tells what is known of each node of a plan, and whether the plan is fair.
func Look(f query.Facts, nodes []api.Node) ([]Part, bool) {
	if !isPlan(nodes) {
		return nil, false
	}
	parts := make([]Part, 0, len(nodes))
	for _, n := range nodes {
		var inputs []Part
		for _, input := range inputsOf(n) {
			inputs = append(inputs, parts[input])
		}
		if !kindsFit(n.Kind, inputs) || !fits(f, n, inputs) {
			return nil, false
		}
		parts = append(parts, partOf(f, n, inputs))
	}
	last := nodes[len(nodes)-1]
	if !makesOutput(last.Kind) || !EndsWell(f.Query, last.Kind, parts[last.L].Order) {
		return nil, false
	}
	return parts, true
}

// partOf tells what is known of a node that fits to its inputs.
func partOf(f query.Facts, n api.Node, inputs []Part) Part {
	p := Part{Kind: n.Kind, Sources: ownSources(n), Clauses: query.SetOf(n.Clauses...)}
	for _, in := range inputs {
		p.Sources = query.Union(p.Sources, in.Sources)
		p.Clauses = query.Union(p.Clauses, in.Clauses)
	}
	switch n.Kind {
	case api.Sort:
		p.Order = n.Cols
	case api.Filter, api.Loop, api.Hash, api.Merge:
		p.Order = inputs[0].Order
	}
	p.Size = sizeOf(f, p, inputs)
	p.Cost = costOf(p, inputs)
	return p
}

func ownSources(n api.Node) query.Set {
	if n.Kind == api.Scan {
		return query.SetOf(n.Source)
	}
	return 0
}

// makesOutput tells the kinds whose rows are no longer rows of columns.
func makesOutput(kind int) bool {
	switch kind {
	case api.Group, api.Stream, api.Project, api.Arrange:
		return true
	}
	return false
}

// kindsFit: what is put out goes to an Arrange alone, and an Arrange takes nothing else.
func kindsFit(kind int, inputs []Part) bool {
	for _, in := range inputs {
		if makesOutput(in.Kind) != (kind == api.Arrange) {
			return false
		}
	}
	return true
}

// fits tells whether a node is what its kind asks for, on these inputs.
func fits(f query.Facts, n api.Node, inputs []Part) bool {
	switch n.Kind {
	case api.Scan:
		return n.Source >= 0 && n.Source < len(f.Query.From)
	case api.Filter:
		return len(n.Clauses) > 0 && clausesFit(f, n.Clauses, inputs[0].Sources)
	case api.Loop:
		return joinFits(f, n, inputs[0], inputs[1])
	case api.Hash:
		_, _, ok := KeyColumns(f, n, inputs[0], inputs[1])
		return ok && joinFits(f, n, inputs[0], inputs[1])
	case api.Merge:
		return mergeFits(f, n, inputs[0], inputs[1])
	case api.Sort:
		return sortFits(f, n.Cols, inputs[0].Sources)
	case api.Group:
		return f.Query.Group && isWhole(f, inputs[0])
	case api.Stream:
		return f.Query.Group && isWhole(f, inputs[0]) && Begins(inputs[0].Order, f.Query.Keys)
	case api.Project:
		return !f.Query.Group && isWhole(f, inputs[0])
	case api.Arrange:
		return len(f.Query.Order) > 0
	}
	return false
}

// clausesFit: clauses of these sources alone, in rising order.
func clausesFit(f query.Facts, clauses []int, sources query.Set) bool {
	last := -1
	for _, c := range clauses {
		if c <= last || c >= len(f.Query.Where) || !sources.Covers(f.Concerns[c]) {
			return false
		}
		last = c
	}
	return true
}

func joinFits(f query.Facts, n api.Node, left, right Part) bool {
	if left.Sources.Meets(right.Sources) {
		return false
	}
	return clausesFit(f, n.Clauses, query.Union(left.Sources, right.Sources))
}

func mergeFits(f query.Facts, n api.Node, left, right Part) bool {
	leftKey, rightKey, ok := KeyColumns(f, n, left, right)
	if !ok || !joinFits(f, n, left, right) {
		return false
	}
	return Begins(left.Order, []int{leftKey}) && Begins(right.Order, []int{rightKey})
}

// KeyColumns tells the key columns of a Hash or Merge, the left side's first,
// if its Key is such a clause.
func KeyColumns(f query.Facts, n api.Node, left, right Part) (leftKey, rightKey int, ok bool) {
	if !slices.Contains(n.Clauses, n.Key) || n.Key < 0 || n.Key >= len(f.Query.Where) {
		return 0, 0, false
	}
	a, b, ok := query.EqualColumns(f.Query.Where[n.Key])
	switch {
	case !ok:
		return 0, 0, false
	case left.Sources.Covers(f.SourcesOf(a)) && right.Sources.Covers(f.SourcesOf(b)):
		return a, b, true
	case left.Sources.Covers(f.SourcesOf(b)) && right.Sources.Covers(f.SourcesOf(a)):
		return b, a, true
	}
	return 0, 0, false
}

// sortFits: different columns of these sources.
func sortFits(f query.Facts, cols []int, sources query.Set) bool {
	// More than there are can't be different; so no list is too long to go through.
	if len(cols) == 0 || len(cols) > len(f.Columns) {
		return false
	}
	for i, column := range cols {
		if column < 0 || column >= len(f.Columns) || slices.Contains(cols[:i], column) {
			return false
		}
		if !sources.Covers(f.SourcesOf(column)) {
			return false
		}
	}
	return true
}

// isWhole tells whether all sources and all clauses are in a part.
func isWhole(f query.Facts, p Part) bool {
	return p.Sources == f.Sources && p.Clauses == f.Clauses
}

// Begins tells whether a list begins with another one.
func Begins(list, start []int) bool {
	return len(list) >= len(start) && slices.Equal(list[:len(start)], start)
}

// EndsWell tells whether a plan may end in this kind, one of those that make
// output, if the rows that go into it are in this order.
func EndsWell(q api.Query, kind int, order []int) bool {
	if len(q.Order) == 0 {
		return true
	}
	switch kind {
	case api.Arrange:
		return true
	case api.Project:
		return Begins(order, columnsOfOrder(q))
	case api.Stream:
		return len(q.Order) <= len(q.Keys) && countsUp(q.Order)
	}
	return false
}

// EndOrder lists the columns by which rows must be sorted so that a Stream
// may take them, or that a Project needs no Arrange behind it. It is empty, if
// there is no need to sort them, or no way.
func EndOrder(q api.Query) []int {
	if q.Group {
		return q.Keys
	}
	columns := columnsOfOrder(q)
	if !query.AllDifferent(columns) {
		return nil
	}
	return columns
}

// columnsOfOrder lists the columns that stand in the places of Order.
func columnsOfOrder(q api.Query) []int {
	var columns []int
	for _, place := range q.Order {
		columns = append(columns, q.Select[place])
	}
	return columns
}

func countsUp(list []int) bool {
	for i, n := range list {
		if n != i {
			return false
		}
	}
	return true
}
