package scout

import (
	"scout/api"
	"scout/query"
	"scout/rows"
)

// answer is the rows of a query's answer on a database, both checked ahead.
func answer(q api.Query, db [][][]int) rows.Rows {
	kept := rows.Filter(combinations(q.From, db), func(row rows.Row) bool { return query.Holds(q.Where, row) })
	return arranged(output(kept, q), q.Order)
}

// combinations are those of one row of each source, the first source's slowest.
func combinations(from []int, db [][][]int) rows.Rows {
	all := rows.Scan(db[from[0]])
	for _, table := range from[1:] {
		all = rows.Loop(all, rows.Scan(db[table]))
	}
	return all
}

func output(kept rows.Rows, q api.Query) rows.Rows {
	if q.Group {
		return rows.Group(kept, q.Keys, q.Sums)
	}
	return rows.Project(kept, q.Select)
}

func arranged(out rows.Rows, order []int) rows.Rows {
	if len(order) == 0 {
		return out
	}
	return rows.Sort(out, order)
}
