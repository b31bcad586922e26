package scout_test

import (
	"math"
	"testing"

	"scout/api"
	"scout/scout"
)

func wantRows(t *testing.T, name string, cat []api.Table, q api.Query, db [][][]int, want [][]int) {
	t.Helper()
	got, e := scout.Eval(cat, q, db)
	if e != api.OK || !sameRows(got, want) {
		t.Errorf("P4: Eval, %s: %v, %d, want %v", name, got, e, want)
	}
}

func TestEvalExample(t *testing.T) {
	type query = api.Query
	turned := exampleQuery()
	turned.Where[1] = one(not(lessThan(0, 5)))
	for _, c := range []struct {
		name string
		q    query
		want [][]int
	}{
		{"Q", exampleQuery(), [][]int{{1, 3}, {1, 3}, {2, 4}}},
		{"Q with Not at clause 1", turned, [][]int{{7, 3}, {7, 3}}},
		{"a sum without keys", query{From: []int{1}, Group: true, Sums: []int{0}}, [][]int{{4, 10}}},
		{"Order 1, 0", query{From: []int{1}, Group: true, Keys: []int{0}, Order: []int{1, 0}}, [][]int{{null, 1}, {4, 1}, {3, 2}}},
	} {
		wantRows(t, c.name, exampleCatalog(), c.q, exampleData(), c.want)
	}
}

func TestEvalCombinations(t *testing.T) {
	cat := []api.Table{table(1), table(1), table(1)}
	db := [][][]int{{{1}, {2}}, {{10}, {20}}, nil}
	all := api.Query{From: []int{0, 1}, Select: []int{0, 1}}
	wantRows(t, "the first source slowest", cat, all, db, [][]int{{1, 10}, {1, 20}, {2, 10}, {2, 20}})
	all.From = []int{1, 0}
	wantRows(t, "sources in another order", cat, all, db, [][]int{{10, 1}, {10, 2}, {20, 1}, {20, 2}})
	all.From, all.Select = []int{0, 1, 0}, []int{2, 1, 0}
	wantRows(t, "a table twice", cat, all, db, [][]int{
		{1, 10, 1}, {2, 10, 1}, {1, 20, 1}, {2, 20, 1}, {1, 10, 2}, {2, 10, 2}, {1, 20, 2}, {2, 20, 2},
	})
	for _, from := range [][]int{{2, 0, 1}, {0, 2, 1}, {0, 1, 2}, {2, 2, 2}} {
		all.From = from
		wantRows(t, "a source without rows", cat, all, db, nil)
	}
	five := api.Query{From: []int{0, 0, 0, 0, 0}, Select: []int{0, 1, 2, 3, 4}, Where: where(one(not(eq(4, 0))), one(eq(3, 0)), one(eq(2, 0)), one(eq(1, 0)))}
	wantRows(t, "five sources", cat, five, db, [][]int{{1, 1, 1, 1, 2}, {2, 2, 2, 2, 1}})
}

// TestEvalConditions: of all pairs of two values each, which are kept.
func TestEvalConditions(t *testing.T) {
	cat := []api.Table{table(2)}
	values := []int{null, -1000, -1, 0, 1, 1000}
	var pairs [][]int
	for _, a := range values {
		for _, b := range values {
			pairs = append(pairs, []int{a, b})
		}
	}
	known := func(row []int) bool { return row[0] != null && row[1] != null }
	for _, c := range []struct {
		name   string
		clause api.Clause
		keep   func(row []int) bool
	}{
		{"Eq", one(eq(0, 1)), func(r []int) bool { return known(r) && r[0] == r[1] }},
		{"not Eq", one(not(eq(0, 1))), func(r []int) bool { return known(r) && r[0] != r[1] }},
		{"Eq of a column and itself", one(eq(0, 0)), func(r []int) bool { return r[0] != null }},
		{"Less", one(less(0, 1)), func(r []int) bool { return known(r) && r[0] < r[1] }},
		{"Less the other way", one(less(1, 0)), func(r []int) bool { return known(r) && r[1] < r[0] }},
		{"not Less", one(not(less(0, 1))), func(r []int) bool { return known(r) && r[0] >= r[1] }},
		{"Eq 0", one(equals(1, 0)), func(r []int) bool { return r[1] == 0 }},
		{"not Eq 0", one(not(equals(1, 0))), func(r []int) bool { return r[1] != null && r[1] != 0 }},
		{"Eq 1000", one(equals(0, 1000)), func(r []int) bool { return r[0] == 1000 }},
		{"Less -1000", one(lessThan(0, -1000)), func(r []int) bool { return false }},
		{"Less 1", one(lessThan(0, 1)), func(r []int) bool { return r[0] != null && r[0] < 1 }},
		{"not Less 1", one(not(lessThan(0, 1))), func(r []int) bool { return r[0] != null && r[0] >= 1 }},
		{"Nil", one(isNil(0)), func(r []int) bool { return r[0] == null }},
		{"not Nil", one(not(isNil(1))), func(r []int) bool { return r[1] != null }},
		{"unknown or true", anyOf(eq(0, 1), isNil(0)), func(r []int) bool { return r[0] == null || r[0] == r[1] }},
		{"true or unknown", anyOf(isNil(0), eq(0, 1)), func(r []int) bool { return r[0] == null || r[0] == r[1] }},
		{"unknown or false", anyOf(less(0, 1), equals(0, 7)), func(r []int) bool { return known(r) && r[0] < r[1] }},
		{"the last of three", anyOf(equals(0, 7), equals(1, 7), isNil(1)), func(r []int) bool { return r[1] == null }},
	} {
		var want [][]int
		for _, row := range pairs {
			if c.keep(row) {
				want = append(want, row)
			}
		}
		q := api.Query{From: []int{0}, Where: where(c.clause), Select: []int{0, 1}}
		wantRows(t, c.name, cat, q, [][][]int{pairs}, want)
		q.Where = where(c.clause, one(lessThan(0, 1)))
		var both [][]int
		for _, row := range want {
			if row[0] != null && row[0] < 1 {
				both = append(both, row)
			}
		}
		wantRows(t, c.name+" and Less 1", cat, q, [][][]int{pairs}, both)
	}
}

func TestEvalSelect(t *testing.T) {
	cat := []api.Table{table(4)}
	db := [][][]int{{{1, 2, 3, null}, {-1, -2, -3, -4}}}
	wantRows(t, "columns in another order, some twice", cat, api.Query{From: []int{0}, Select: []int{3, 0, 3, 2}}, db, [][]int{{null, 1, null, 3}, {-4, -1, -4, -3}})
	wantRows(t, "no rows", cat, api.Query{From: []int{0}, Select: []int{3}, Order: []int{0}}, [][][]int{nil}, nil)
	wantRows(t, "none kept", cat, api.Query{From: []int{0}, Select: []int{0}, Where: where(one(equals(0, 5)))}, db, nil)
}

func TestEvalGroup(t *testing.T) {
	type query = api.Query
	cat := []api.Table{table(3)}
	rows := [][]int{{2, null, 7}, {null, 1, 8}, {2, null, null}, {null, 1, 9}, {2, 0, null}, {null, null, -1000}}
	for _, c := range []struct {
		name string
		rows [][]int
		q    query
		want [][]int
	}{
		{"no keys", rows, query{}, [][]int{{6}}},
		{"no keys, sums", rows, query{Sums: []int{2, 0, 1, 2}}, [][]int{{6, -976, 6, 2, -976}}},
		{"no keys, no rows", nil, query{Sums: []int{2, 0}}, [][]int{{0, null, null}}},
		{"no keys, none kept", rows, query{Sums: []int{2}, Where: where(one(equals(0, 9)))}, [][]int{{0, null}}},
		{"keys, no rows", nil, query{Keys: []int{0}, Sums: []int{2}}, nil},
		{"keys, none kept", rows, query{Keys: []int{0}, Where: where(one(equals(0, 9)))}, nil},
		{"Null is the same as Null", rows, query{Keys: []int{0}}, [][]int{{2, 3}, {null, 3}}},
		{"sums of groups", rows, query{Keys: []int{0}, Sums: []int{2, 1}}, [][]int{{2, 3, 7, 0}, {null, 3, -983, 2}}},
		{"several keys", rows, query{Keys: []int{1, 0}, Sums: []int{2}}, [][]int{{null, 2, 2, 7}, {1, null, 2, 17}, {0, 2, 1, null}, {null, null, 1, -1000}}},
		{"a sum of a key", rows, query{Keys: []int{0}, Sums: []int{0}}, [][]int{{2, 3, 6}, {null, 3, null}}},
		{"a sum of values that are 0", [][]int{{1, 0, 0}, {1, 0, null}}, query{Sums: []int{1, 2}}, [][]int{{2, 0, 0}}},
		{"a sum that comes to 0", [][]int{{5, 0, 0}, {-5, 0, 0}, {null, 0, 0}}, query{Sums: []int{0}}, [][]int{{3, 0}}},
		{"keys that are 0", [][]int{{0, null, 0}, {null, 0, 0}, {0, 0, 0}}, query{Keys: []int{0, 1}}, [][]int{{0, null, 1}, {null, 0, 1}, {0, 0, 1}}},
	} {
		c.q.From, c.q.Group = []int{0}, true
		wantRows(t, c.name, cat, c.q, [][][]int{c.rows}, c.want)
	}
	wide := query{From: []int{0, 0}, Group: true, Keys: []int{5, 2, 0, 3}, Sums: []int{1}, Where: where(one(isNil(1)), one(equals(4, 0)))}
	wantRows(t, "four keys", cat, wide, [][][]int{rows}, [][]int{{null, 7, 2, 2, 1, null}, {null, null, 2, 2, 1, null}, {null, -1000, null, 2, 1, null}})
}

// TestEvalOrder: rows that are alike in the places stay in their order, told by the last column.
func TestEvalOrder(t *testing.T) {
	type query = api.Query
	cat := []api.Table{table(3)}
	db := [][][]int{{{1, 5, 0}, {null, 5, 1}, {1, null, 2}, {-1000, 5, 3}, {null, null, 4}, {1, 5, 5}, {1000, -5, 6}, {null, 5, 7}}}
	for _, c := range []struct {
		name  string
		order []int
		want  []int
	}{
		{"no order", nil, []int{0, 1, 2, 3, 4, 5, 6, 7}},
		{"Null first", []int{0}, []int{1, 4, 7, 3, 0, 2, 5, 6}},
		{"the second place", []int{1}, []int{2, 4, 6, 0, 1, 3, 5, 7}},
		{"both places", []int{0, 1}, []int{4, 1, 7, 3, 2, 0, 5, 6}},
		{"the other way round", []int{1, 0}, []int{4, 2, 6, 1, 7, 3, 0, 5}},
	} {
		var want [][]int
		for _, number := range c.want {
			want = append(want, db[0][number])
		}
		wantRows(t, c.name, cat, query{From: []int{0}, Select: []int{0, 1, 2}, Order: c.order}, db, want)
	}
	wantRows(t, "by a place, not by a column", cat, query{From: []int{0}, Select: []int{2, 0}, Order: []int{1}}, db,
		[][]int{{1, null}, {4, null}, {7, null}, {3, -1000}, {0, 1}, {2, 1}, {5, 1}, {6, 1000}})
	wantRows(t, "groups by count", cat, query{From: []int{0}, Group: true, Keys: []int{0}, Order: []int{1}}, db,
		[][]int{{-1000, 1}, {1000, 1}, {1, 3}, {null, 3}})
	wantRows(t, "groups by a sum that is Null", cat, query{From: []int{0}, Group: true, Keys: []int{2}, Sums: []int{0}, Order: []int{2}, Where: where(one(lessThan(2, 4)))}, db,
		[][]int{{1, 1, null}, {3, 1, -1000}, {0, 1, 1}, {2, 1, 1}})
}

func TestEvalManyAlike(t *testing.T) {
	cat := []api.Table{table(1)}
	q := api.Query{From: []int{0, 0, 0}, Select: []int{0, 1, 2}, Order: []int{1}}
	db := [][][]int{numbered(27)}
	got, e := scout.Eval(cat, q, db)
	if e != api.OK || len(got) != 27*27*27 {
		t.Fatalf("P4: Eval of 27 times 27 times 27 combinations: %d rows, %d", len(got), e)
	}
	for i, row := range got {
		if row[1] != i/729 || row[0] != i/27%27 || row[2] != i%27 {
			t.Fatalf("P4: Eval, row %d of those that are alike: %v", i, row)
		}
	}
}

func TestEvalGreatSums(t *testing.T) {
	cat := []api.Table{table(1), table(1)}
	for _, value := range []int{1000, -1000} {
		fifty, eight := numbered(50), numbered(8)
		for _, row := range append(fifty, eight...) {
			row[0] = value
		}
		q := api.Query{From: []int{0, 1, 0}, Group: true, Sums: []int{0, 2}}
		wantRows(t, "the greatest sums", cat, q, [][][]int{fifty, eight}, [][]int{{20000, 20000 * value, 20000 * value}})
	}
}

func TestEvalData(t *testing.T) {
	row := func(values ...int) [][][]int { return [][][]int{{values}, nil} }
	for _, c := range []struct {
		name string
		want api.Errno
		db   [][][]int
	}{
		{"no database", api.ErrData, nil},
		{"an empty one", api.ErrData, [][][]int{}},
		{"a table too few", api.ErrData, [][][]int{nil}},
		{"a table too many", api.ErrData, [][][]int{nil, nil, nil}},
		{"no rows", api.OK, [][][]int{nil, {}}},
		{"a row of no values", api.ErrData, row()},
		{"a row too short", api.ErrData, row(1)},
		{"a row too long", api.ErrData, row(1, 2, 3)},
		{"a wrong row behind a right one", api.ErrData, [][][]int{{{1, 2}, nil}, nil}},
		{"a wrong row of the last table", api.ErrData, [][][]int{nil, {{1, 2}}}},
		{"the bounds", api.OK, row(-1000, 1000)},
		{"Null", api.OK, row(null, null)},
		{"below the bound", api.ErrData, row(-1001, 0)},
		{"above the bound", api.ErrData, row(0, 1001)},
		{"just below Null", api.ErrData, row(null-1, 0)},
		{"just above Null", api.ErrData, row(0, null+1)},
		{"Null below zero", api.ErrData, row(0, -null)},
		{"the least number", api.ErrData, row(math.MinInt, 0)},
		{"the greatest number", api.ErrData, row(0, math.MaxInt)},
		{"fifty rows", api.OK, [][][]int{nil, numbered(50)}},
		{"fifty-one rows", api.ErrData, [][][]int{nil, numbered(51)}},
	} {
		for _, from := range [][]int{{0, 1}, {0}, {1}} { // a table that is no source is looked at too
			q := api.Query{From: from, Group: true, Keys: []int{0}}
			got, e := scout.Eval(exampleCatalog(), q, c.db)
			if e != c.want || e != api.OK && got != nil {
				t.Errorf("P4: Eval, %s, sources %v: %v, %d, want %d", c.name, from, got, e, c.want)
			}
		}
	}
}

func TestEvalTooManyCombinations(t *testing.T) {
	for _, c := range []struct {
		name  string
		sizes []int
		from  []int
		want  api.Errno
		count int
	}{
		{"20000", []int{50, 8}, []int{0, 1, 0}, api.OK, 20000},
		{"20000 of four sources", []int{50, 10, 4}, []int{0, 1, 2, 1}, api.OK, 20000},
		{"20007", []int{27, 39, 19}, []int{0, 1, 2}, api.ErrData, 0},
		{"50 times 50 times 50", []int{50}, []int{0, 0, 0}, api.ErrData, 0},
		{"the most that there can be", []int{50}, []int{0, 0, 0, 0, 0}, api.ErrData, 0},
		{"20000 beside a table without rows", []int{50, 8, 0}, []int{2, 0, 1, 0}, api.OK, 0},
		{"20007 ahead of a table without rows", []int{27, 39, 19, 0}, []int{0, 1, 2, 3}, api.ErrData, 0},
		{"20007 behind a table without rows", []int{27, 39, 19, 0}, []int{3, 0, 1, 2}, api.ErrData, 0},
		{"tables that are no sources", []int{50, 50, 50, 2}, []int{3}, api.OK, 2},
	} {
		var cat []api.Table
		var db [][][]int
		for _, size := range c.sizes {
			cat, db = append(cat, table(1)), append(db, numbered(size))
		}
		got, e := scout.Eval(cat, api.Query{From: c.from, Group: true}, db)
		if e != c.want || e != api.OK && got != nil || e == api.OK && !sameRows(got, [][]int{{c.count}}) {
			t.Errorf("P4: Eval of %s combinations: %v, %d, want %d", c.name, got, e, c.want)
		}
	}
}

// TestEvalFirstError: what Check tells hides what is wrong with the database.
func TestEvalFirstError(t *testing.T) {
	for _, db := range [][][][]int{nil, {nil}, {{{1}}, nil}, {{{0, 1001}}, nil}} {
		if got, e := scout.Eval(exampleCatalog(), exampleQuery(), db); e != api.ErrData || got != nil {
			t.Errorf("P4: Eval of %v: %v, %d", db, got, e)
		}
		q := exampleQuery()
		q.Select = nil
		if got, e := scout.Eval(exampleCatalog(), q, db); e != api.ErrQuery || got != nil {
			t.Errorf("P1: Eval of no query on %v: %v, %d", db, got, e)
		}
		q.Order = make([]int, 5)
		if got, e := scout.Eval(exampleCatalog(), q, db); e != api.ErrFull || got != nil {
			t.Errorf("P1: Eval of a full query on %v: %v, %d", db, got, e)
		}
		if got, e := scout.Eval(nil, q, db); e != api.ErrCatalog || got != nil {
			t.Errorf("P1: Eval of no catalog on %v: %v, %d", db, got, e)
		}
	}
}
