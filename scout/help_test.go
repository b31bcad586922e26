package scout_test

import (
	"slices"

	"scout/api"
)

const null = api.Null

// exampleCatalog, exampleQuery, exampleData: C, Q and D of the document.
func exampleCatalog() []api.Table {
	return []api.Table{
		{Cols: 2, Rows: 100, Kinds: [4]int{100, 10}},
		{Cols: 1, Rows: 10, Kinds: [4]int{10}},
	}
}

func exampleQuery() api.Query {
	return api.Query{
		From:   []int{0, 1},
		Where:  where(one(eq(1, 2)), one(lessThan(0, 5))),
		Select: []int{0, 2},
		Order:  []int{0},
	}
}

func exampleData() [][][]int {
	return [][][]int{
		{{1, 3}, {7, 3}, {4, null}, {2, 4}},
		{{4}, {3}, {3}, {null}},
	}
}

func where(clauses ...api.Clause) []api.Clause { return clauses }

func one(c api.Cond) api.Clause { return api.Clause{Alts: []api.Cond{c}} }

func anyOf(conds ...api.Cond) api.Clause { return api.Clause{Alts: conds} }

func eq(left, right int) api.Cond { return api.Cond{Op: api.Eq, Left: left, Right: right} }

func equals(left, value int) api.Cond {
	return api.Cond{Op: api.Eq, Left: left, Const: true, Right: value}
}

func less(left, right int) api.Cond { return api.Cond{Op: api.Less, Left: left, Right: right} }

func lessThan(left, value int) api.Cond {
	return api.Cond{Op: api.Less, Left: left, Const: true, Right: value}
}

func isNil(left int) api.Cond { return api.Cond{Op: api.Nil, Left: left} }

func not(c api.Cond) api.Cond {
	c.Not = true
	return c
}

// table: of so many columns, with all counts at 1.
func table(columns int) api.Table {
	return api.Table{Cols: columns, Rows: 1, Kinds: [4]int{1, 1, 1, 1}}
}

// numbered: so many rows of one column, 0, 1, 2, ..
func numbered(rows int) [][]int {
	list := make([][]int, rows)
	for i := range list {
		list[i] = []int{i}
	}
	return list
}

func sameRows(a, b [][]int) bool {
	return slices.EqualFunc(a, b, func(x, y []int) bool { return slices.Equal(x, y) })
}
