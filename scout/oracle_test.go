package scout_test

import (
	"math/rand"
	"slices"
	"testing"

	"scout/api"
	"scout/scout"
)

// oracle answers a checked query by the document's words, in another way than
// the program: all is gathered, and found again by looking through it.
func oracle(q api.Query, db [][][]int) [][]int {
	all := [][]int{nil}
	for _, table := range q.From {
		var longer [][]int
		for _, head := range all {
			for _, tail := range db[table] {
				longer = append(longer, append(slices.Clone(head), tail...))
			}
		}
		all = longer
	}
	all = slices.DeleteFunc(all, func(row []int) bool { return !oracleKeeps(q.Where, row) })
	var out [][]int
	if q.Group {
		out = oracleGroups(q, all)
	} else {
		for _, row := range all {
			out = append(out, oraclePick(row, q.Select))
		}
	}
	for i := len(q.Order) - 1; i >= 0; i-- { // the last place first, as each sort keeps the order
		oracleSort(out, q.Order[i])
	}
	return out
}

// oracleKeeps: every clause has a condition that is true. Unknown counts as
// false here, but Not does not turn it.
func oracleKeeps(where []api.Clause, row []int) bool {
	for _, clause := range where {
		found := false
		for _, c := range clause.Alts {
			a, b := row[c.Left], c.Right
			if c.Op == api.Nil {
				found = found || (a == api.Null) != c.Not
				continue
			}
			if !c.Const {
				b = row[b]
			}
			if a == api.Null || b == api.Null {
				continue
			}
			found = found || c.Op == api.Eq && (a == b) != c.Not || c.Op == api.Less && (a < b) != c.Not
		}
		if !found {
			return false
		}
	}
	return true
}

func oraclePick(row, columns []int) []int {
	var picked []int
	for _, column := range columns {
		picked = append(picked, row[column])
	}
	return picked
}

func oracleGroups(q api.Query, all [][]int) [][]int {
	var out, keys [][]int
	for _, row := range all {
		key := oraclePick(row, q.Keys)
		if !slices.ContainsFunc(keys, func(k []int) bool { return slices.Equal(k, key) }) {
			keys = append(keys, key)
		}
	}
	if len(q.Keys) == 0 {
		keys = [][]int{nil}
	}
	for _, key := range keys {
		count := 0
		sums := make([]int, len(q.Sums))
		known := make([]int, len(q.Sums))
		for _, row := range all {
			if !slices.Equal(oraclePick(row, q.Keys), key) {
				continue
			}
			count++
			for i, column := range q.Sums {
				if row[column] != api.Null {
					sums[i] += row[column]
					known[i]++
				}
			}
		}
		for i := range sums {
			if known[i] == 0 {
				sums[i] = api.Null
			}
		}
		out = append(out, append(append(slices.Clone(key), count), sums...))
	}
	return out
}

// oracleSort: neighbours are swapped until none is greater than the next one.
func oracleSort(out [][]int, place int) {
	rank := func(row []int) int {
		if row[place] == api.Null {
			return -api.Null
		}
		return row[place]
	}
	for i := range out {
		for j := i; j > 0 && rank(out[j-1]) > rank(out[j]); j-- {
			out[j-1], out[j] = out[j], out[j-1]
		}
	}
}

// randomCase: a catalog, a query and a database that are in order.
func randomCase(r *rand.Rand) ([]api.Table, api.Query, [][][]int) {
	cat := make([]api.Table, 1+r.Intn(3))
	db := make([][][]int, len(cat))
	for i := range cat {
		cat[i] = table(1 + r.Intn(4))
		for range r.Intn(6) {
			db[i] = append(db[i], randomList(r, cat[i].Cols, randomValue))
		}
	}
	var q api.Query
	columns := 0
	for range 1 + r.Intn(4) {
		q.From = append(q.From, r.Intn(len(cat)))
		columns += cat[q.From[len(q.From)-1]].Cols
	}
	column := func(r *rand.Rand) int { return r.Intn(columns) }
	for range r.Intn(4) {
		var clause api.Clause
		for range 1 + r.Intn(3) {
			clause.Alts = append(clause.Alts, randomCond(r, column))
		}
		q.Where = append(q.Where, clause)
	}
	width := 0
	if q.Group = r.Intn(2) == 0; q.Group {
		q.Keys = r.Perm(columns)[:r.Intn(min(columns, 4)+1)]
		q.Sums = randomList(r, r.Intn(5), column)
		width = len(q.Keys) + 1 + len(q.Sums)
	} else {
		q.Select = randomList(r, 1+r.Intn(8), column)
		width = len(q.Select)
	}
	q.Order = r.Perm(width)[:r.Intn(min(width, 4)+1)]
	return cat, q, db
}

func randomList(r *rand.Rand, length int, of func(r *rand.Rand) int) []int {
	list := make([]int, length)
	for i := range list {
		list[i] = of(r)
	}
	return list
}

// randomValue: few of them, so that many are alike.
func randomValue(r *rand.Rand) int {
	return []int{null, -1000, -1, 0, 1, 2, 3, 1000}[r.Intn(8)]
}

func randomCond(r *rand.Rand, column func(r *rand.Rand) int) api.Cond {
	c := api.Cond{Not: r.Intn(3) == 0, Op: r.Intn(3), Left: column(r)}
	if c.Op == api.Nil {
		return c
	}
	if c.Const = r.Intn(2) == 0; c.Const {
		c.Right = r.Intn(6) - 2
	} else {
		c.Right = column(r)
	}
	return c
}

func TestEvalAgainstOracle(t *testing.T) {
	r := rand.New(rand.NewSource(1))
	kept := 0
	for range 20000 {
		cat, q, db := randomCase(r)
		want := oracle(q, db)
		got, e := scout.Eval(cat, q, db)
		if e != api.OK || !sameRows(got, want) {
			t.Fatalf("P4: Eval of %+v on %v: %v, %d, want %v", q, db, got, e, want)
		}
		if len(want) > 1 {
			kept++
		}
	}
	if kept < 5000 {
		t.Errorf("only %d of the queries had more than one row: the cases tell too little", kept)
	}
}
