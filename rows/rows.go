// Package rows has the operators that rows go through, one by one: each is a
// function over which one can range, built on those of its inputs.
//
// A row that an operator hands on is not written into any more, by nobody:
// those of Scan are the database's. Those of Project, Group and Stream are new.
package rows

import (
	"slices"

	"scout/api"
)

// Row is a list of values.
type Row = []int

// Rows hands out rows until there are no more, or none is wanted any more.
// One can range over it several times, and gets the same rows each time.
type Rows func(yield func(row Row) bool)

// Scan hands out the rows of a table.
func Scan(table []Row) Rows {
	return func(yield func(Row) bool) {
		for _, row := range table {
			if !yield(row) {
				return
			}
		}
	}
}

// Filter hands on the rows that are to be kept.
func Filter(input Rows, keep func(Row) bool) Rows {
	return func(yield func(Row) bool) {
		for row := range input {
			if keep(row) && !yield(row) {
				return
			}
		}
	}
}

// Project hands out of each row the columns that are named.
func Project(input Rows, columns []int) Rows {
	return func(yield func(Row) bool) {
		for row := range input {
			if !yield(pick(row, columns)) {
				return
			}
		}
	}
}

// Sort hands on the rows by the places, the first place first; rows that are
// alike there stay in their order.
func Sort(input Rows, places []int) Rows {
	return func(yield func(Row) bool) {
		sorted := Gather(input)
		slices.SortStableFunc(sorted, func(a, b Row) int { return compareRows(a, b, places) })
		Scan(sorted)(yield)
	}
}

// Gather lists all rows.
func Gather(input Rows) []Row {
	var list []Row
	for row := range input {
		list = append(list, row)
	}
	return list
}

func pick(row Row, columns []int) Row {
	picked := make(Row, len(columns))
	for i, column := range columns {
		picked[i] = row[column]
	}
	return picked
}

func compareRows(a, b Row, places []int) int {
	for _, place := range places {
		if order := compareValues(a[place], b[place]); order != 0 {
			return order
		}
	}
	return 0
}

// compareValues takes Null ahead of all others, though its number is the greatest.
func compareValues(a, b int) int {
	switch {
	case a == b:
		return 0
	case a == api.Null:
		return -1
	case b == api.Null:
		return 1
	case a < b:
		return -1
	}
	return 1
}
