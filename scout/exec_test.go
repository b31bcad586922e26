package scout_test

import (
	"testing"

	"scout/api"
	"scout/scout"
)

// running: a plan, and the rows that come out of it on the example's database,
// or on another one of the example's catalog.
type running struct {
	name string
	q    api.Query
	plan nodes
	db   [][][]int
	want [][]int
}

func tryRunning(t *testing.T, cases []running) {
	t.Helper()
	for _, c := range cases {
		db := c.db
		if db == nil {
			db = exampleData()
		}
		rows, e := scout.Exec(exampleCatalog(), c.q, c.plan, db)
		if e != api.OK || !sameRows(rows, c.want) {
			t.Errorf("P5: Exec, %s: %v, %d, want %v", c.name, rows, e, c.want)
		}
	}
}

func TestExecExample(t *testing.T) {
	want := [][]int{{1, 3}, {1, 3}, {2, 4}}
	tryRunning(t, []running{
		{"the example", exampleQuery(), examplePlan(), nil, want},
		{"sorted ahead", exampleQuery(), nodes{scan(0), sortBy(0, 0), scan(1), loop(1, 2, 0, 1), project(3)}, nil, want},
	})
}

// TestExecJoins: the three joins tell the same rows in the same order; Null is
// equal to nothing.
func TestExecJoins(t *testing.T) {
	q := api.Query{From: []int{0, 1}, Where: where(one(eq(1, 2))), Select: []int{0, 2}}
	db := [][][]int{
		{{1, 5}, {2, null}, {3, 4}, {4, 5}, {5, 4}, {6, 9}, {7, -1000}},
		{{5}, {null}, {4}, {5}, {0}, {null}, {-1000}, {1000}},
	}
	byRow := [][]int{{1, 5}, {1, 5}, {3, 4}, {4, 5}, {4, 5}, {5, 4}, {7, -1000}}
	byKey := [][]int{{7, -1000}, {3, 4}, {5, 4}, {1, 5}, {1, 5}, {4, 5}, {4, 5}}
	byRight := [][]int{{7, -1000}, {3, 4}, {5, 4}, {1, 5}, {4, 5}, {1, 5}, {4, 5}}
	tryRunning(t, []running{
		{"Loop", q, nodes{scan(0), scan(1), loop(0, 1, 0), project(2)}, db, byRow},
		{"Hash", q, nodes{scan(0), scan(1), hash(0, 1, 0, 0), project(2)}, db, byRow},
		{"Loop of sorted sides", q, nodes{scan(0), sortBy(0, 1), scan(1), sortBy(2, 2), loop(1, 3, 0), project(4)}, db, byKey},
		{"Hash of sorted sides", q, nodes{scan(0), sortBy(0, 1), scan(1), sortBy(2, 2), hash(1, 3, 0, 0), project(4)}, db, byKey},
		{"Merge", q, nodes{scan(0), sortBy(0, 1), scan(1), sortBy(2, 2), merge(1, 3, 0, 0), project(4)}, db, byKey},
		{"Merge, the sides changed", q, nodes{scan(0), sortBy(0, 1), scan(1), sortBy(2, 2), merge(3, 1, 0, 0), project(4)}, db, byRight},
		{"Merge of no left rows", q, nodes{scan(0), sortBy(0, 1), scan(1), sortBy(2, 2), merge(1, 3, 0, 0), project(4)}, [][][]int{nil, db[1]}, nil},
		{"Merge of no right rows", q, nodes{scan(0), sortBy(0, 1), scan(1), sortBy(2, 2), merge(1, 3, 0, 0), project(4)}, [][][]int{db[0], nil}, nil},
	})
}

// TestExecOtherClauses: a join keeps only rows for which all its clauses are true.
func TestExecOtherClauses(t *testing.T) {
	q := api.Query{From: []int{0, 0}, Where: where(one(less(0, 2)), one(eq(3, 1)), anyOf(equals(0, 1), isNil(2))), Select: []int{0, 2}}
	db := [][][]int{{{1, 3}, {2, 3}, {null, 3}, {3, 3}, {1, 4}, {2, 4}}, nil}
	want := [][]int{{1, 2}, {1, 3}, {1, 2}}
	tryRunning(t, []running{
		{"Loop", q, nodes{scan(0), scan(1), loop(0, 1, 0, 1, 2), project(2)}, db, want},
		{"Hash", q, nodes{scan(0), scan(1), hash(0, 1, 1, 0, 1, 2), project(2)}, db, want},
		{"Hash and Filter", q, nodes{scan(0), scan(1), hash(0, 1, 1, 1, 2), filter(2, 0), project(3)}, db, want},
		{"Merge", q, nodes{scan(0), sortBy(0, 1), scan(1), sortBy(2, 3), merge(1, 3, 1, 0, 1, 2), project(4)}, db, want},
		{"the sources the other way round", q, nodes{scan(1), scan(0), hash(0, 1, 1, 0, 1, 2), project(2)}, db, want},
	})
}

func TestExecGroups(t *testing.T) {
	q := api.Query{From: []int{0}, Group: true, Keys: []int{1}, Sums: []int{0}}
	db := [][][]int{{{1, 5}, {null, null}, {2, 4}, {3, 5}, {null, null}, {4, 4}, {null, 5}}, nil}
	whole := api.Query{From: []int{0, 1}, Group: true, Sums: []int{0, 2}}
	ordered := q
	ordered.Order = []int{1, 2}
	byKeys := [][]int{{null, 2, null}, {4, 2, 6}, {5, 3, 4}}
	tryRunning(t, []running{
		{"Group", q, nodes{scan(0), group(0)}, db, [][]int{{5, 3, 4}, {null, 2, null}, {4, 2, 6}}},
		{"Group of what is sorted", q, nodes{scan(0), sortBy(0, 0), group(1)}, db, [][]int{{null, 2, null}, {5, 3, 4}, {4, 2, 6}}},
		{"Stream", q, nodes{scan(0), sortBy(0, 1), stream(1)}, db, byKeys},
		{"Stream, sorted by more", q, nodes{scan(0), sortBy(0, 1, 0), stream(1)}, db, byKeys},
		{"Stream of no rows", q, nodes{scan(0), sortBy(0, 1), stream(1)}, [][][]int{nil, nil}, nil},
		{"Group without keys, of no rows", whole, nodes{scan(0), scan(1), loop(0, 1), group(2)}, db, [][]int{{0, null, null}}},
		{"Stream without keys, of no rows", whole, nodes{scan(0), scan(1), loop(0, 1), stream(2)}, db, [][]int{{0, null, null}}},
		{"Stream without keys", whole, nodes{scan(0), scan(1), loop(0, 1), stream(2)}, nil, [][]int{{16, 56, 40}}},
		{"Arrange of Stream", ordered, nodes{scan(0), sortBy(0, 1), stream(1), arrange(2)}, db, [][]int{{null, 2, null}, {4, 2, 6}, {5, 3, 4}}},
		{"Arrange of Group", ordered, nodes{scan(0), group(0), arrange(1)}, db, [][]int{{null, 2, null}, {4, 2, 6}, {5, 3, 4}}},
	})
}

// TestExecSorts: Sort and Arrange keep the order of rows that are alike.
func TestExecSorts(t *testing.T) {
	q := api.Query{From: []int{0}, Select: []int{0, 1}}
	db := [][][]int{{{3, 1}, {1, 2}, {null, 1}, {2, 2}, {3, null}, {1, 1}}, nil}
	arranged := q
	arranged.Order = []int{1}
	tryRunning(t, []running{
		{"Sort", q, nodes{scan(0), sortBy(0, 1), project(1)}, db, [][]int{{3, null}, {3, 1}, {null, 1}, {1, 1}, {1, 2}, {2, 2}}},
		{"Sort by both", q, nodes{scan(0), sortBy(0, 1, 0), project(1)}, db, [][]int{{3, null}, {null, 1}, {1, 1}, {3, 1}, {1, 2}, {2, 2}}},
		{"Sort, and Sort again", q, nodes{scan(0), sortBy(0, 0), sortBy(1, 1), project(2)}, db, [][]int{{3, null}, {null, 1}, {1, 1}, {3, 1}, {1, 2}, {2, 2}}},
		{"Arrange", arranged, nodes{scan(0), project(0), arrange(1)}, db, [][]int{{3, null}, {3, 1}, {null, 1}, {1, 1}, {1, 2}, {2, 2}}},
		{"Arrange of what was sorted", arranged, nodes{scan(0), sortBy(0, 0), project(1), arrange(2)}, db, [][]int{{3, null}, {null, 1}, {1, 1}, {3, 1}, {1, 2}, {2, 2}}},
	})
}

// TestExecData: P5. The database is refused as Eval refuses it.
func TestExecData(t *testing.T) {
	q := api.Query{From: []int{1, 1, 1, 1}, Select: []int{0}}
	plan := nodes{scan(0), scan(1), loop(0, 1), scan(2), loop(2, 3), scan(3), loop(4, 5), project(6)}
	for _, c := range []struct {
		name string
		db   [][][]int
	}{
		{"nothing", nil},
		{"a table too few", [][][]int{nil}},
		{"a table too many", [][][]int{nil, nil, nil}},
		{"a row too long", [][][]int{nil, {{1, 2}}}},
		{"a row too short", [][][]int{{{1}}, nil}},
		{"a value too great", [][][]int{nil, {{1001}}}},
		{"a table too long", [][][]int{numbered(51), nil}},
		{"too many combinations", [][][]int{nil, numbered(12)}},
		{"as many as may be", [][][]int{nil, numbered(11)}},
	} {
		want, e := scout.Eval(exampleCatalog(), q, c.db)
		rows, f := scout.Exec(exampleCatalog(), q, plan, c.db)
		if e != f || !sameRows(rows, want) || (e == api.OK) != (c.name == "as many as may be") {
			t.Errorf("P5: Exec on %s: %d, Eval: %d", c.name, f, e)
		}
	}
}
