package scout_test

import (
	"math"
	"testing"

	"scout/api"
	"scout/scout"
)

// bend: what is changed of the example, and what Check then answers.
type bend struct {
	name string
	want api.Errno
	do   func(cat *[]api.Table, q *api.Query)
}

func tryBends(t *testing.T, bends []bend) {
	t.Helper()
	for _, b := range bends {
		cat, q := exampleCatalog(), exampleQuery()
		b.do(&cat, &q)
		if got := scout.Check(cat, q); got != b.want {
			t.Errorf("P3: Check, %s: %d, want %d", b.name, got, b.want)
		}
		if rows, got := scout.Eval(cat, q, nil); b.want != api.OK && (got != b.want || rows != nil) {
			t.Errorf("P4: Eval, %s: %v, %d, want %d", b.name, rows, got, b.want)
		}
	}
}

func TestCheckExample(t *testing.T) {
	tryBends(t, []bend{
		{"the example", api.OK, func(cat *[]api.Table, q *api.Query) {}},
		{"Order 2", api.ErrQuery, func(cat *[]api.Table, q *api.Query) { q.Order = []int{2} }},
		{"Select 3", api.ErrQuery, func(cat *[]api.Table, q *api.Query) { q.Select = []int{0, 3} }},
		{"no Select", api.ErrQuery, func(cat *[]api.Table, q *api.Query) { q.Select = nil }},
		{"six sources", api.ErrFull, func(cat *[]api.Table, q *api.Query) { q.From = make([]int, 6) }},
		{"no tables", api.ErrCatalog, func(cat *[]api.Table, q *api.Query) { *cat = nil }},
	})
}

func TestCheckCatalog(t *testing.T) {
	tables := func(n int) func(cat *[]api.Table, q *api.Query) {
		return func(cat *[]api.Table, q *api.Query) {
			for len(*cat) < n {
				*cat = append(*cat, table(1))
			}
		}
	}
	tryBends(t, []bend{
		{"an empty list", api.ErrCatalog, func(cat *[]api.Table, q *api.Query) { *cat = []api.Table{} }},
		{"one table", api.OK, func(cat *[]api.Table, q *api.Query) {
			*cat = (*cat)[:1]
			q.From = []int{0, 0}
		}},
		{"eight tables", api.OK, tables(8)},
		{"nine tables", api.ErrCatalog, tables(9)},
		{"a wrong table that is no source", api.ErrCatalog, func(cat *[]api.Table, q *api.Query) { *cat = append(*cat, api.Table{}) }},
	})
	for _, c := range []struct {
		number   int
		cols     api.Errno
		rows     api.Errno
		kinds    api.Errno
		unlooked api.Errno
	}{
		{math.MinInt, api.ErrCatalog, api.ErrCatalog, api.ErrCatalog, api.OK},
		{-1, api.ErrCatalog, api.ErrCatalog, api.ErrCatalog, api.OK},
		{0, api.ErrCatalog, api.OK, api.ErrCatalog, api.OK},
		{1, api.OK, api.OK, api.OK, api.OK},
		{4, api.OK, api.OK, api.OK, api.OK},
		{5, api.ErrCatalog, api.OK, api.OK, api.OK},
		{1000000, api.ErrCatalog, api.OK, api.OK, api.OK},
		{1000001, api.ErrCatalog, api.ErrCatalog, api.ErrCatalog, api.OK},
		{math.MaxInt, api.ErrCatalog, api.ErrCatalog, api.ErrCatalog, api.OK},
	} {
		tryBends(t, []bend{
			{"Cols", c.cols, func(cat *[]api.Table, q *api.Query) {
				*cat = append(*cat, api.Table{Cols: c.number, Kinds: [4]int{1, 1, 1, 1}})
			}},
			{"Rows", c.rows, func(cat *[]api.Table, q *api.Query) { (*cat)[1].Rows = c.number }},
			{"Kinds of the first column", c.kinds, func(cat *[]api.Table, q *api.Query) { (*cat)[0].Kinds[0] = c.number }},
			{"Kinds of the last column", c.kinds, func(cat *[]api.Table, q *api.Query) { (*cat)[0].Kinds[1] = c.number }},
			{"Kinds of no column", c.unlooked, func(cat *[]api.Table, q *api.Query) { (*cat)[0].Kinds[2] = c.number }},
		})
	}
}

func TestCheckFull(t *testing.T) {
	type query = *api.Query
	grouping := func(q query) { q.Group, q.Select, q.Order = true, nil, nil }
	for _, c := range []struct {
		name string
		most int
		over api.Errno
		lay  func(q query, n int)
	}{
		{"From", 5, api.ErrFull, func(q query, n int) { q.From = make([]int, n) }},
		{"Where", 8, api.ErrFull, func(q query, n int) {
			q.Where = nil
			for range n {
				q.Where = append(q.Where, one(eq(0, 1)))
			}
		}},
		{"Alts of the last clause", 3, api.ErrFull, func(q query, n int) { q.Where[1].Alts = make([]api.Cond, n) }},
		{"Select", 8, api.ErrFull, func(q query, n int) { q.Select = make([]int, n) }},
		{"Keys", 4, api.ErrFull, func(q query, n int) {
			grouping(q)
			q.From = []int{0, 0, 0}
			q.Keys = []int{4, 3, 2, 1, 0}[:n]
		}},
		{"Sums", 4, api.ErrFull, func(q query, n int) {
			grouping(q)
			q.Sums = make([]int, n)
		}},
		{"Order", 4, api.ErrFull, func(q query, n int) {
			q.Select = make([]int, 8)
			q.Order = []int{7, 0, 1, 2, 3}[:n]
		}},
	} {
		tryBends(t, []bend{
			{c.name + " at the bound", api.OK, func(cat *[]api.Table, q *api.Query) { c.lay(q, c.most) }},
			{c.name + " above the bound", c.over, func(cat *[]api.Table, q *api.Query) { c.lay(q, c.most+1) }},
		})
	}
}

func TestCheckSources(t *testing.T) {
	from := func(list ...int) func(cat *[]api.Table, q *api.Query) {
		return func(cat *[]api.Table, q *api.Query) { q.From = list }
	}
	tryBends(t, []bend{
		{"no source", api.ErrQuery, from()},
		{"a table below all", api.ErrQuery, from(0, -1)},
		{"the table behind the last", api.ErrQuery, from(0, 2)},
		{"the least number", api.ErrQuery, from(math.MinInt, 1)},
		{"the greatest number", api.ErrQuery, from(math.MaxInt, 1)},
		{"the same table five times", api.OK, from(0, 0, 0, 0, 0)},
		{"columns that the sources no longer have", api.ErrQuery, from(1, 1)},
	})
}

func TestCheckConditions(t *testing.T) {
	// The example has the columns 0, 1, 2.
	for _, c := range []struct {
		want api.Errno
		cond api.Cond
	}{
		{api.OK, eq(0, 2)}, {api.OK, eq(2, 0)}, {api.OK, eq(1, 1)}, {api.OK, not(eq(0, 2))},
		{api.OK, less(0, 2)}, {api.OK, less(2, 2)}, {api.OK, not(less(0, 2))},
		{api.ErrQuery, eq(3, 0)}, {api.ErrQuery, eq(-1, 0)}, {api.ErrQuery, eq(0, 3)}, {api.ErrQuery, eq(0, -1)},
		{api.ErrQuery, less(3, 0)}, {api.ErrQuery, less(-1, 0)}, {api.ErrQuery, less(0, 3)}, {api.ErrQuery, less(0, -1)},
		{api.ErrQuery, eq(math.MaxInt, 0)}, {api.ErrQuery, eq(math.MinInt, 0)}, {api.ErrQuery, eq(0, math.MaxInt)}, {api.ErrQuery, eq(0, math.MinInt)},
		{api.ErrQuery, eq(0, null)},
		{api.OK, equals(2, -1000)}, {api.OK, equals(2, 1000)}, {api.OK, lessThan(2, -1000)}, {api.OK, lessThan(2, 1000)},
		{api.ErrQuery, equals(2, -1001)}, {api.ErrQuery, equals(2, 1001)}, {api.ErrQuery, lessThan(2, -1001)}, {api.ErrQuery, lessThan(2, 1001)},
		{api.ErrQuery, equals(2, null)}, {api.ErrQuery, lessThan(2, null)}, {api.ErrQuery, equals(3, 0)}, {api.ErrQuery, lessThan(-1, 0)},
		{api.OK, isNil(0)}, {api.OK, not(isNil(2))}, {api.ErrQuery, isNil(3)}, {api.ErrQuery, isNil(-1)},
		{api.ErrQuery, api.Cond{Op: api.Nil, Const: true}},
		{api.ErrQuery, api.Cond{Op: api.Nil, Right: 1}},
		{api.ErrQuery, api.Cond{Op: api.Nil, Right: -1}},
		{api.ErrQuery, api.Cond{Op: 3}}, {api.ErrQuery, api.Cond{Op: -1}}, {api.ErrQuery, api.Cond{Op: math.MaxInt, Const: true}},
	} {
		for _, clause := range []api.Clause{one(c.cond), anyOf(c.cond, eq(0, 0)), anyOf(eq(0, 0), eq(0, 0), c.cond)} {
			for place := range 2 {
				cat, q := exampleCatalog(), exampleQuery()
				q.Where[place] = clause
				if got := scout.Check(cat, q); got != c.want {
					t.Errorf("P3: Check of the clause %+v: %d, want %d", clause, got, c.want)
				}
			}
		}
	}
	tryBends(t, []bend{
		{"no clauses", api.OK, func(cat *[]api.Table, q *api.Query) { q.Where = nil }},
		{"a clause of nil", api.ErrQuery, func(cat *[]api.Table, q *api.Query) { q.Where[1].Alts = nil }},
		{"a clause of an empty list", api.ErrQuery, func(cat *[]api.Table, q *api.Query) { q.Where[0].Alts = []api.Cond{} }},
	})
}

func TestCheckOutput(t *testing.T) {
	type query = api.Query
	for _, c := range []struct {
		name string
		want api.Errno
		q    query
	}{
		{"all columns", api.OK, query{Select: []int{0, 1, 2}}},
		{"a column several times", api.OK, query{Select: []int{2, 2, 2, 2, 2, 2, 2, 2}}},
		{"an empty Select", api.ErrQuery, query{Select: []int{}}},
		{"a Select below all", api.ErrQuery, query{Select: []int{0, -1}}},
		{"a Select behind all", api.ErrQuery, query{Select: []int{3, 0}}},
		{"Keys without Group", api.ErrQuery, query{Select: []int{0}, Keys: []int{0}}},
		{"Sums without Group", api.ErrQuery, query{Select: []int{0}, Sums: []int{0}}},
		{"empty Keys and Sums without Group", api.OK, query{Select: []int{0}, Keys: []int{}, Sums: []int{}}},
		{"Group alone", api.OK, query{Group: true}},
		{"Group with an empty Select", api.OK, query{Group: true, Select: []int{}}},
		{"Group with a Select", api.ErrQuery, query{Group: true, Select: []int{0}}},
		{"Group with all columns as keys", api.OK, query{Group: true, Keys: []int{2, 0, 1}}},
		{"a key twice", api.ErrQuery, query{Group: true, Keys: []int{2, 0, 2}}},
		{"a key below all", api.ErrQuery, query{Group: true, Keys: []int{-1}}},
		{"a key behind all", api.ErrQuery, query{Group: true, Keys: []int{0, 3}}},
		{"a sum several times", api.OK, query{Group: true, Sums: []int{1, 1, 1, 1}}},
		{"a sum of a key", api.OK, query{Group: true, Keys: []int{1}, Sums: []int{1}}},
		{"a sum below all", api.ErrQuery, query{Group: true, Sums: []int{-1}}},
		{"a sum behind all", api.ErrQuery, query{Group: true, Sums: []int{0, 3}}},
		{"Order by all places", api.OK, query{Select: []int{2, 2, 1}, Order: []int{2, 0, 1}}},
		{"Order by a place below all", api.ErrQuery, query{Select: []int{0}, Order: []int{-1}}},
		{"Order by the place behind all", api.ErrQuery, query{Select: []int{0, 1}, Order: []int{0, 2}}},
		{"Order by a place twice", api.ErrQuery, query{Select: []int{0, 1}, Order: []int{1, 1}}},
		{"Order by the count", api.OK, query{Group: true, Order: []int{0}}},
		{"Order behind the count", api.ErrQuery, query{Group: true, Order: []int{1}}},
		{"Order by key, count and sum", api.OK, query{Group: true, Keys: []int{0}, Sums: []int{2}, Order: []int{2, 1, 0}}},
		{"Order behind the sum", api.ErrQuery, query{Group: true, Keys: []int{0}, Sums: []int{2}, Order: []int{3}}},
	} {
		c.q.From = []int{0, 1}
		if got := scout.Check(exampleCatalog(), c.q); got != c.want {
			t.Errorf("P3: Check, %s: %d, want %d", c.name, got, c.want)
		}
	}
}

// TestCheckFirstError: each error named earlier hides those named later, whatever field they are of.
func TestCheckFirstError(t *testing.T) {
	full := map[string]func(q *api.Query){
		"From":   func(q *api.Query) { q.From = []int{9, 9, 9, 9, 9, 9} },
		"Where":  func(q *api.Query) { q.Where = make([]api.Clause, 9) },
		"Alts":   func(q *api.Query) { q.Where[1].Alts = make([]api.Cond, 4) },
		"Select": func(q *api.Query) { q.Select = make([]int, 9) },
		"Keys":   func(q *api.Query) { q.Keys = make([]int, 5) },
		"Sums":   func(q *api.Query) { q.Sums = make([]int, 5) },
		"Order":  func(q *api.Query) { q.Order = make([]int, 5) },
	}
	wrong := map[string]func(q *api.Query){
		"From":   func(q *api.Query) { q.From = nil },
		"Where":  func(q *api.Query) { q.Where[0].Alts = nil },
		"Select": func(q *api.Query) { q.Select = []int{7} },
		"Group":  func(q *api.Query) { q.Group = true },
		"Keys":   func(q *api.Query) { q.Keys = []int{0, 0} },
		"Order":  func(q *api.Query) { q.Order = []int{8} },
	}
	for over, fill := range full {
		for under, spoil := range wrong {
			q := exampleQuery()
			spoil(&q)
			if e := scout.Check(exampleCatalog(), q); e != api.ErrQuery {
				t.Errorf("P3: Check, wrong %s: %d", under, e)
			}
			fill(&q)
			if e := scout.Check(exampleCatalog(), q); e != api.ErrFull {
				t.Errorf("P1: Check, too many %s and wrong %s: %d", over, under, e)
			}
			cat := exampleCatalog()
			cat[1].Rows = -1
			if e := scout.Check(cat, q); e != api.ErrCatalog {
				t.Errorf("P1: Check, no catalog, too many %s and wrong %s: %d", over, under, e)
			}
		}
	}
}
