package scout_test

import (
	"math"
	"testing"

	"scout/api"
	"scout/scout"
)

func tryCost(t *testing.T, name string, cat []api.Table, q api.Query, plan nodes, want uint64) {
	t.Helper()
	if cost, e := scout.Cost(cat, q, plan); e != api.OK || cost != want {
		t.Errorf("P6: Cost, %s: %d, %d, want %d", name, cost, e, want)
	}
}

func TestCostExample(t *testing.T) {
	tryCost(t, "the example", exampleCatalog(), exampleQuery(), examplePlan(), 562)
	tryCost(t, "the first plan", exampleCatalog(), exampleQuery(), nodes{scan(0), scan(1), loop(0, 1), filter(2, 0, 1), project(3), arrange(4)}, 2376)
}

// TestCostParts: by what the clause parts is to be seen in what Project costs.
func TestCostParts(t *testing.T) {
	cat := []api.Table{
		{Cols: 2, Rows: 100000, Kinds: [4]int{7, 9}},
		{Cols: 1, Rows: 1, Kinds: [4]int{11}},
	}
	for _, c := range []struct {
		clause api.Clause
		parts  uint64
	}{
		{one(equals(0, 3)), 7}, {one(equals(1, 3)), 9}, {one(equals(2, 3)), 11},
		{one(eq(0, 1)), 9}, {one(eq(1, 0)), 9}, {one(eq(0, 0)), 7}, {one(eq(1, 2)), 11}, {one(eq(2, 0)), 11},
		{one(less(0, 1)), 3}, {one(lessThan(2, 1)), 3}, {one(isNil(1)), 10},
		{one(not(equals(0, 3))), 2}, {one(not(eq(0, 2))), 2}, {one(not(less(0, 1))), 2}, {one(not(isNil(1))), 2},
		{anyOf(equals(0, 3), equals(0, 4)), 2}, {anyOf(equals(0, 3), less(0, 1), isNil(2)), 2},
	} {
		q := api.Query{From: []int{0, 1}, Where: where(c.clause), Select: []int{0}}
		plan := nodes{scan(0), scan(1), loop(0, 1, 0), project(2)}
		tryCost(t, "a clause that parts", cat, q, plan, 100001+2+100000+100000/c.parts)
	}
}

// TestCostSizes: sizes are cut to whole numbers clause by clause, and are at
// least 1, but of no rows 0; a clause counts once.
func TestCostSizes(t *testing.T) {
	cat := func(rows int) []api.Table { return []api.Table{{Cols: 1, Rows: rows, Kinds: [4]int{4}}} }
	q := api.Query{From: []int{0}, Where: where(one(equals(0, 1)), one(lessThan(0, 5)), one(isNil(0))), Select: []int{0}}
	apart := nodes{scan(0), filter(0, 0), filter(1, 1), filter(2, 2), project(3)}
	for _, c := range []struct {
		rows  int
		sizes []uint64 // behind each Filter
	}{
		{1000, []uint64{250, 83, 8}}, {119, []uint64{29, 9, 1}}, {47, []uint64{11, 3, 1}}, {11, []uint64{2, 1, 1}}, {3, []uint64{1, 1, 1}}, {1, []uint64{1, 1, 1}}, {0, []uint64{0, 0, 0}},
	} {
		rows := uint64(c.rows)
		tryCost(t, "Filters apart", cat(c.rows), q, apart, rows+1+rows+c.sizes[0]+c.sizes[1]+c.sizes[2])
		tryCost(t, "one Filter", cat(c.rows), q, nodes{scan(0), filter(0, 0, 1, 2), project(1)}, rows+1+rows+c.sizes[2])
		tryCost(t, "a clause again", cat(c.rows), q, nodes{scan(0), filter(0, 0, 1, 2), filter(1, 0, 2), project(2)}, rows+1+rows+2*c.sizes[2])
	}
}

func TestCostKinds(t *testing.T) {
	cat := []api.Table{{Cols: 1, Rows: 5, Kinds: [4]int{1}}, {Cols: 1, Rows: 8, Kinds: [4]int{2}}}
	q := api.Query{From: []int{0, 1}, Where: where(one(eq(0, 1))), Select: []int{0}}
	sorted := nodes{scan(0), sortBy(0, 0), scan(1), sortBy(2, 1)} // 6 + 5*4 = 26, 9 + 8*5 = 49
	tryCost(t, "Loop", cat, q, nodes{scan(0), scan(1), loop(0, 1, 0), project(2)}, 6+9+40+20)
	tryCost(t, "Hash", cat, q, nodes{scan(0), scan(1), hash(0, 1, 0, 0), project(2)}, 6+9+5+16+20+20)
	tryCost(t, "Hash, the other way round", cat, q, nodes{scan(0), scan(1), hash(1, 0, 0, 0), project(2)}, 6+9+8+10+20+20)
	tryCost(t, "Merge", cat, q, append(sorted, merge(1, 3, 0, 0), project(4)), 26+49+5+8+20+20)
	grouping := api.Query{From: []int{1}, Group: true}
	tryCost(t, "Group", cat, grouping, nodes{scan(0), group(0)}, 9+16)
	tryCost(t, "Stream", cat, grouping, nodes{scan(0), stream(0)}, 9+8)
	grouping.Order = []int{0}
	tryCost(t, "Arrange", cat, grouping, nodes{scan(0), stream(0), arrange(1)}, 9+8+40)
	tryCost(t, "Arrange of Arrange", cat, grouping, nodes{scan(0), group(0), arrange(1), arrange(2)}, 9+16+40+40)
	for _, c := range []struct {
		rows int
		bits uint64
	}{{0, 1}, {1, 2}, {2, 3}, {3, 3}, {4, 4}, {5, 4}, {7, 4}, {8, 5}, {1023, 11}, {1024, 12}, {1000000, 21}} {
		plain := api.Query{From: []int{0}, Select: []int{0}}
		rows := uint64(c.rows)
		tryCost(t, "Sort", []api.Table{{Cols: 1, Rows: c.rows, Kinds: [4]int{1}}}, plain, nodes{scan(0), sortBy(0, 0), project(1)}, rows+1+rows*c.bits+rows)
	}
}

// TestCostGreatest: P6. No size and no cost goes above the greatest number.
func TestCostGreatest(t *testing.T) {
	million := api.Table{Cols: 1, Rows: 1000000, Kinds: [4]int{1000000}}
	cat := []api.Table{million, {Cols: 1, Rows: 0, Kinds: [4]int{1}}, {Cols: 1, Rows: 18, Kinds: [4]int{1}}, {Cols: 1, Rows: 19, Kinds: [4]int{1}}}
	all := nodes{scan(0), scan(1), loop(0, 1), scan(2), loop(2, 3), scan(3), loop(4, 5), project(6)}
	most := uint64(math.MaxUint64)
	below := uint64(3000003 + 1000000000000 + 1000000000000000000)
	q := func(from ...int) api.Query { return api.Query{From: from, Select: []int{0}} }
	tryCost(t, "a product above all, of the work", cat, q(0, 0, 0, 0), all, most)
	tryCost(t, "sums above all", cat, q(0, 0, 0, 2), all, most)
	tryCost(t, "a product just above all", cat, q(0, 0, 0, 3), all, most)
	tryCost(t, "nothing times all", cat, q(0, 0, 0, 1), all, below+1+0+0)
	tryCost(t, "nothing first", cat, q(1, 0, 0, 0), all, 1+3000003)

	// The product is cut to the greatest number, and parted only then.
	parted := q(0, 0, 0, 0)
	for range 3 {
		parted.Where = append(parted.Where, one(equals(0, 1)))
	}
	filtered := nodes{scan(0), filter(0, 0, 1, 2), scan(1), loop(1, 2), scan(2), loop(3, 4), scan(3), loop(5, 6), project(7)}
	work := uint64(4000004+1000000) + 1000000
	// One row, so that the product is 10^6, 10^12, 10^18 and 2^64-1, each by 10^18.
	work += 1000000 + 1000000 + 18
	tryCost(t, "parted behind the cut", cat, parted, filtered, work)
}
