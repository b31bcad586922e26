// Package query knows what a catalog, a query and a database are, and of
// which rows the clauses of a query are true.
package query

import (
	"slices"

	"scout/api"
)

// Check tells the first error that applies to a catalog and a query of it.
func Check(cat []api.Table, q api.Query) api.Errno {
	switch {
	case !isCatalog(cat):
		return api.ErrCatalog
	case isFull(q):
		return api.ErrFull
	case !isQuery(cat, q):
		return api.ErrQuery
	}
	return api.OK
}

func isCatalog(cat []api.Table) bool {
	if len(cat) < 1 || len(cat) > api.MaxTables {
		return false
	}
	return !slices.ContainsFunc(cat, func(t api.Table) bool { return !isTable(t) })
}

func isTable(t api.Table) bool {
	if t.Cols < 1 || t.Cols > api.MaxCols || t.Rows < 0 || t.Rows > api.MaxCount {
		return false
	}
	for _, kinds := range t.Kinds[:t.Cols] {
		if kinds < 1 || kinds > api.MaxCount {
			return false
		}
	}
	return true
}

// isFull looks at lengths alone, so that lists of any length cost no time.
func isFull(q api.Query) bool {
	if len(q.From) > api.MaxFrom || len(q.Where) > api.MaxWhere || len(q.Order) > api.MaxOrder {
		return true
	}
	if len(q.Select) > api.MaxSelect || len(q.Keys) > api.MaxKeys || len(q.Sums) > api.MaxSums {
		return true
	}
	return slices.ContainsFunc(q.Where, func(c api.Clause) bool { return len(c.Alts) > api.MaxAlts })
}

func isQuery(cat []api.Table, q api.Query) bool {
	// The sources go first: without them there is no number of columns.
	if len(q.From) == 0 || !allBelow(q.From, len(cat)) {
		return false
	}
	columns := countColumns(cat, q.From)
	if !clausesFit(q.Where, columns) || !outputFits(q, columns) {
		return false
	}
	return allBelow(q.Order, outputWidth(q)) && AllDifferent(q.Order)
}

func countColumns(cat []api.Table, from []int) int {
	columns := 0
	for _, table := range from {
		columns += cat[table].Cols
	}
	return columns
}

func clausesFit(where []api.Clause, columns int) bool {
	for _, clause := range where {
		if len(clause.Alts) == 0 {
			return false
		}
		for _, c := range clause.Alts {
			if !condFits(c, columns) {
				return false
			}
		}
	}
	return true
}

func condFits(c api.Cond, columns int) bool {
	if !isBelow(c.Left, columns) {
		return false
	}
	switch c.Op {
	case api.Eq, api.Less:
		if c.Const {
			return isNumber(c.Right)
		}
		return isBelow(c.Right, columns)
	case api.Nil:
		return !c.Const && c.Right == 0
	}
	return false
}

func outputFits(q api.Query, columns int) bool {
	if !q.Group {
		return len(q.Select) > 0 && allBelow(q.Select, columns) && len(q.Keys) == 0 && len(q.Sums) == 0
	}
	if len(q.Select) > 0 || !allBelow(q.Sums, columns) {
		return false
	}
	return allBelow(q.Keys, columns) && AllDifferent(q.Keys)
}

// outputWidth is how many places the rows that come out have; between a
// group's keys and its sums stands how many rows it has.
func outputWidth(q api.Query) int {
	if q.Group {
		return len(q.Keys) + 1 + len(q.Sums)
	}
	return len(q.Select)
}

func isBelow(n, bound int) bool {
	return n >= 0 && n < bound
}

func allBelow(list []int, bound int) bool {
	return !slices.ContainsFunc(list, func(n int) bool { return !isBelow(n, bound) })
}

// AllDifferent tells whether no number stands in the list twice.
func AllDifferent(list []int) bool {
	for i, n := range list {
		if slices.Contains(list[:i], n) {
			return false
		}
	}
	return true
}

func isNumber(n int) bool {
	return n >= -api.MaxValue && n <= api.MaxValue
}
