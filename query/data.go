package query

import "scout/api"

// CheckData tells whether db is a database of the catalog that has no more
// combinations than may be for the query, which Check has let pass.
func CheckData(cat []api.Table, q api.Query, db [][][]int) api.Errno {
	if !isDatabase(cat, db) || countCombinations(q.From, db) > api.MaxProduct {
		return api.ErrData
	}
	return api.OK
}

func isDatabase(cat []api.Table, db [][][]int) bool {
	if len(db) != len(cat) {
		return false
	}
	for i, table := range db {
		if len(table) > api.MaxRows || !rowsFit(table, cat[i].Cols) {
			return false
		}
	}
	return true
}

func rowsFit(table [][]int, columns int) bool {
	for _, row := range table {
		if len(row) != columns {
			return false
		}
		for _, value := range row {
			if value != api.Null && !isNumber(value) {
				return false
			}
		}
	}
	return true
}

func countCombinations(from []int, db [][][]int) int {
	product := 1
	for _, table := range from {
		// A table without rows counts as one, so that it hides no others.
		product *= max(1, len(db[table]))
	}
	return product
}
