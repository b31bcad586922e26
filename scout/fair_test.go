package scout_test

import (
	"math"
	"slices"
	"testing"

	"scout/api"
	"scout/scout"
)

type nodes = []api.Node

func scan(source int) api.Node { return api.Node{Kind: api.Scan, Source: source} }

func filter(l int, clauses ...int) api.Node {
	return api.Node{Kind: api.Filter, L: l, Clauses: clauses}
}

func loop(l, r int, clauses ...int) api.Node {
	return api.Node{Kind: api.Loop, L: l, R: r, Clauses: clauses}
}

// hash and merge: the key comes ahead of all clauses, itself among them.
func hash(l, r, key int, clauses ...int) api.Node {
	return api.Node{Kind: api.Hash, L: l, R: r, Key: key, Clauses: clauses}
}

func merge(l, r, key int, clauses ...int) api.Node {
	return api.Node{Kind: api.Merge, L: l, R: r, Key: key, Clauses: clauses}
}

func sortBy(l int, cols ...int) api.Node { return api.Node{Kind: api.Sort, L: l, Cols: cols} }

func group(l int) api.Node   { return api.Node{Kind: api.Group, L: l} }
func stream(l int) api.Node  { return api.Node{Kind: api.Stream, L: l} }
func project(l int) api.Node { return api.Node{Kind: api.Project, L: l} }
func arrange(l int) api.Node { return api.Node{Kind: api.Arrange, L: l} }

// examplePlan: the plan of the document.
func examplePlan() nodes {
	return nodes{scan(0), filter(0, 1), scan(1), hash(1, 2, 0, 0), project(3), arrange(4)}
}

// fairness: a plan, and what Fair answers of it.
type fairness struct {
	name string
	want api.Errno
	plan nodes
}

// tryFairness: Fair, Exec and Cost must tell the same.
func tryFairness(t *testing.T, q api.Query, cases []fairness) {
	t.Helper()
	for _, c := range cases {
		e := scout.Fair(exampleCatalog(), q, c.plan)
		rows, f := scout.Exec(exampleCatalog(), q, c.plan, exampleData())
		cost, g := scout.Cost(exampleCatalog(), q, c.plan)
		if e != c.want || f != c.want || g != c.want {
			t.Errorf("P5, P6: %s: Fair %d, Exec %d, Cost %d, want %d", c.name, e, f, g, c.want)
		}
		if c.want != api.OK && (rows != nil || cost != 0) {
			t.Errorf("P1: %s: the error %d, and %v, %d", c.name, c.want, rows, cost)
		}
		if c.want == api.OK && !sameAnswer(q, rows, oracle(q, exampleData())) {
			t.Errorf("P5: %s: %v, but the answer is %v", c.name, rows, oracle(q, exampleData()))
		}
	}
}

func TestFairExample(t *testing.T) {
	tryFairness(t, exampleQuery(), []fairness{
		{"the example", api.OK, examplePlan()},
		{"without its last node", api.ErrPlan, examplePlan()[:5]},
		{"sorted ahead", api.OK, nodes{scan(0), sortBy(0, 0), scan(1), loop(1, 2, 0, 1), project(3)}},
		{"the first plan", api.OK, nodes{scan(0), scan(1), loop(0, 1), filter(2, 0, 1), project(3), arrange(4)}},
	})
}

func TestFairLength(t *testing.T) {
	sorts := func(count int) nodes {
		list := nodes{scan(0), scan(1), loop(0, 1, 0, 1)}
		for len(list) < count-1 {
			list = append(list, sortBy(len(list)-1, 0))
		}
		return append(list, project(len(list)-1))
	}
	arranges := func(count int) nodes {
		list := examplePlan()
		for len(list) < count {
			list = append(list, arrange(len(list)-1))
		}
		return list
	}
	tryFairness(t, exampleQuery(), []fairness{
		{"nil", api.ErrPlan, nil},
		{"an empty list", api.ErrPlan, nodes{}},
		{"63 nodes", api.OK, sorts(63)},
		{"64 nodes", api.OK, sorts(64)},
		{"65 nodes", api.ErrPlan, sorts(65)},
		{"64 nodes with many an Arrange", api.OK, arranges(64)},
		{"65 nodes with many an Arrange", api.ErrPlan, arranges(65)},
		{"a million nodes", api.ErrPlan, make(nodes, 1000000)},
	})
}

// everyKind: a fair plan of kinds 1 to 6, for a query of its own.
func everyKind() (api.Query, nodes) {
	q := api.Query{
		From:   []int{0, 1, 0},
		Where:  where(one(eq(1, 2)), one(eq(4, 2)), one(lessThan(0, 5))),
		Select: []int{0, 2, 3},
		Order:  []int{0},
	}
	return q, nodes{
		scan(0), filter(0, 2), sortBy(1, 1, 0), scan(1), sortBy(3, 2), merge(2, 4, 0, 0),
		scan(2), hash(5, 6, 1, 1), project(7), arrange(8),
	}
}

// TestFairIdleFields: what a kind has no use for is 0, or empty.
func TestFairIdleFields(t *testing.T) {
	q, plan := everyKind()
	grouped := api.Query{From: []int{0}, Group: true, Order: []int{0}}
	for _, c := range []struct {
		q    api.Query
		plan nodes
	}{{q, plan}, {grouped, nodes{scan(0), group(0), arrange(1)}}, {grouped, nodes{scan(0), stream(0), arrange(1)}}} {
		tryFairness(t, c.q, []fairness{{"as it is", api.OK, c.plan}})
		for i, n := range c.plan {
			for field, change := range map[string]func(n *api.Node){
				"L":       func(n *api.Node) { n.L = 1 },
				"R":       func(n *api.Node) { n.R = 1 },
				"Source":  func(n *api.Node) { n.Source = -1 },
				"Clauses": func(n *api.Node) { n.Clauses = []int{0} },
				"Key":     func(n *api.Node) { n.Key = 2 },
				"Cols":    func(n *api.Node) { n.Cols = []int{0} },
			} {
				if has(n, field) {
					continue
				}
				changed := slices.Clone(c.plan)
				change(&changed[i])
				tryFairness(t, c.q, []fairness{{"a field without use: " + field, api.ErrPlan, changed}})
			}
			empty := slices.Clone(c.plan)
			if len(n.Clauses) == 0 {
				empty[i].Clauses = []int{}
			}
			if len(n.Cols) == 0 {
				empty[i].Cols = []int{}
			}
			tryFairness(t, c.q, []fairness{{"an empty list without use", api.OK, empty}})
		}
	}
}

// TestFairWrongNumbers: any number that is none of what a field may tell.
func TestFairWrongNumbers(t *testing.T) {
	q, plan := everyKind()
	for i, n := range plan {
		for _, number := range []int{math.MinInt, -1, 11, 64, math.MaxInt} {
			for field, change := range map[string]func(n *api.Node){
				"Kind":    func(n *api.Node) { n.Kind = number },
				"L":       func(n *api.Node) { n.L = number },
				"R":       func(n *api.Node) { n.R = number },
				"Source":  func(n *api.Node) { n.Source = number },
				"Clauses": func(n *api.Node) { n.Clauses = append(slices.Clone(n.Clauses), number) },
				"a first": func(n *api.Node) { n.Clauses = append([]int{number}, n.Clauses...) },
				"Key":     func(n *api.Node) { n.Key = number },
				"a key":   func(n *api.Node) { n.Key, n.Clauses = number, []int{number} },
				"Cols":    func(n *api.Node) { n.Cols = append(slices.Clone(n.Cols), number) },
			} {
				changed := slices.Clone(plan)
				change(&changed[i])
				tryFairness(t, q, []fairness{{"a wrong number: " + field, api.ErrPlan, changed}})
			}
		}
		for _, input := range []int{i, i + 1} {
			left, right := slices.Clone(plan), slices.Clone(plan)
			left[i].L, right[i].R = input, input
			if n.Kind != api.Scan && i > 0 {
				tryFairness(t, q, []fairness{{"L is not ahead", api.ErrPlan, left}, {"R is not ahead", api.ErrPlan, right}})
			}
		}
	}
	none := slices.Clone(plan)
	none[0].Kind = 0
	tryFairness(t, q, []fairness{{"the kind 0", api.ErrPlan, none}})
}

func TestFairInputs(t *testing.T) {
	tryFairness(t, exampleQuery(), []fairness{
		{"sources the other way round", api.OK, nodes{scan(1), scan(0), loop(0, 1, 0, 1), project(2), arrange(3)}},
		{"L behind R", api.OK, nodes{scan(1), scan(0), loop(1, 0, 0, 1), project(2), arrange(3)}},
		{"a node that nobody takes", api.ErrPlan, nodes{scan(0), scan(0), scan(1), loop(0, 2, 0, 1), project(3), arrange(4)}},
		{"a node that two take", api.ErrPlan, nodes{scan(0), filter(0, 1), filter(0, 1), scan(1), loop(1, 3, 0, 1), project(4), arrange(5)}},
		{"a node behind the end", api.ErrPlan, slices.Insert(examplePlan(), 6, scan(0))},
		{"L is R", api.ErrPlan, nodes{scan(0), scan(1), loop(0, 0, 1), project(2), arrange(3)}},
		{"a source on both sides", api.ErrPlan, nodes{scan(0), scan(0), loop(0, 1, 1), scan(1), loop(2, 3, 0), project(4), arrange(5)}},
		{"a source deep on both sides", api.ErrPlan, nodes{scan(0), scan(1), loop(0, 1, 0, 1), scan(0), filter(3, 1), loop(2, 4), project(5), arrange(6)}},
		{"a source that is not there", api.ErrPlan, nodes{scan(0), scan(2), loop(0, 1), project(2), arrange(3)}},
		{"one source only", api.ErrPlan, nodes{scan(0), filter(0, 1), project(1), arrange(2)}},
	})
}

func TestFairClauses(t *testing.T) {
	tryFairness(t, exampleQuery(), []fairness{
		{"a clause at several nodes", api.OK, nodes{scan(0), filter(0, 1), filter(1, 1), scan(1), loop(2, 3, 0, 1), filter(4, 0, 1), project(5), arrange(6)}},
		{"a Filter without clauses", api.ErrPlan, nodes{scan(0), filter(0), scan(1), loop(1, 2, 0, 1), project(3), arrange(4)}},
		{"a clause missing", api.ErrPlan, nodes{scan(0), scan(1), loop(0, 1, 0), project(2), arrange(3)}},
		{"the other clause missing", api.ErrPlan, nodes{scan(0), scan(1), loop(0, 1, 1), project(2), arrange(3)}},
		{"falling clauses", api.ErrPlan, nodes{scan(0), scan(1), loop(0, 1, 1, 0), project(2), arrange(3)}},
		{"a clause twice", api.ErrPlan, nodes{scan(0), scan(1), loop(0, 1, 0, 0, 1), project(2), arrange(3)}},
		{"a clause of another source", api.ErrPlan, nodes{scan(0), scan(1), filter(1, 1), loop(0, 2, 0), project(3), arrange(4)}},
		{"a clause of two sources at one", api.ErrPlan, nodes{scan(0), filter(0, 0, 1), scan(1), loop(1, 2), project(3), arrange(4)}},
	})
	// The Right of a Nil is 0, but not column 0; that of a Const is no column either.
	q := exampleQuery()
	q.Where = where(one(isNil(2)), one(equals(2, 0)), anyOf(eq(2, 2), equals(2, 1), not(isNil(2))), anyOf(equals(2, 3), eq(2, 0)))
	tryFairness(t, q, []fairness{
		{"clauses of one column", api.OK, nodes{scan(1), filter(0, 0, 1, 2), scan(0), loop(1, 2, 3), project(3), arrange(4)}},
		{"a column of the last condition", api.ErrPlan, nodes{scan(1), filter(0, 0, 1, 2, 3), scan(0), loop(1, 2, 3), project(3), arrange(4)}},
	})
}

func TestFairKeys(t *testing.T) {
	q := api.Query{From: []int{0, 1}, Where: where(one(eq(0, 2))), Select: []int{0}}
	joined := func(list ...int) nodes { return nodes{scan(0), scan(1), hash(0, 1, 0, list...), project(2)} }
	for _, c := range []struct {
		name   string
		clause api.Clause
		want   api.Errno
	}{
		{"Eq of both sides", one(eq(0, 2)), api.OK},
		{"Eq of both sides, the other way round", one(eq(2, 1)), api.OK},
		{"Eq with Not", one(not(eq(0, 2))), api.ErrPlan},
		{"Eq with Const", one(equals(0, 2)), api.ErrPlan},
		{"Less", one(less(0, 2)), api.ErrPlan},
		{"Nil", one(isNil(2)), api.ErrPlan},
		{"Eq of the left side alone", one(eq(0, 1)), api.ErrPlan},
		{"Eq of the right side alone", one(eq(2, 2)), api.ErrPlan},
		{"two conditions", anyOf(eq(0, 2), eq(0, 2)), api.ErrPlan},
	} {
		q.Where = where(c.clause)
		sorted := nodes{scan(0), sortBy(0, 0, 1), scan(1), sortBy(2, 2), merge(1, 3, 0, 0), project(4)}
		if c.clause.Alts[0].Right == 1 {
			sorted[1].Cols = []int{1}
		}
		tryFairness(t, q, []fairness{{"Hash by " + c.name, c.want, joined(0)}, {"Merge by " + c.name, c.want, sorted}})
	}
	q.Where = where(one(eq(0, 2)), one(eq(1, 2)))
	tryFairness(t, q, []fairness{
		{"the other key", api.OK, nodes{scan(0), scan(1), hash(0, 1, 1, 0, 1), project(2)}},
		{"a key that is none of the clauses", api.ErrPlan, nodes{scan(0), scan(1), hash(0, 1, 1, 0), filter(2, 1), project(3)}},
		{"no clauses", api.ErrPlan, nodes{scan(0), scan(1), hash(0, 1, 0), filter(2, 0, 1), project(3)}},
	})
}

func TestFairMerge(t *testing.T) {
	q := api.Query{From: []int{0, 1, 0}, Where: where(one(eq(2, 1)), one(eq(2, 4))), Select: []int{0}}
	merged := func(left, right []int) nodes {
		return nodes{scan(0), sortBy(0, left...), scan(1), sortBy(2, right...), merge(1, 3, 0, 0), scan(2), loop(4, 5, 1), project(6)}
	}
	tryFairness(t, q, []fairness{
		{"both sorted", api.OK, merged([]int{1}, []int{2})},
		{"sorted by more", api.OK, merged([]int{1, 0}, []int{2})},
		{"the key is second", api.ErrPlan, merged([]int{0, 1}, []int{2})},
		{"sorted by another column", api.ErrPlan, merged([]int{0}, []int{2})},
		{"L is not sorted", api.ErrPlan, nodes{scan(0), scan(1), sortBy(1, 2), merge(0, 2, 0, 0), scan(2), loop(3, 4, 1), project(5)}},
		{"R is not sorted", api.ErrPlan, nodes{scan(0), sortBy(0, 1), scan(1), merge(1, 2, 0, 0), scan(2), loop(3, 4, 1), project(5)}},
		{"a Merge has the order of L", api.ErrPlan, append(merged([]int{1}, []int{2})[:5], scan(2), sortBy(5, 4), merge(4, 6, 1, 1), project(7))},
		{"the order goes through Merge", api.OK, nodes{scan(1), sortBy(0, 2), scan(0), sortBy(2, 1), merge(1, 3, 0, 0), scan(2), sortBy(5, 4), merge(4, 6, 1, 1), project(7)}},
		{"the order goes through Hash", api.OK, nodes{scan(1), sortBy(0, 2), scan(0), hash(1, 2, 0, 0), scan(2), sortBy(4, 4, 3), merge(3, 5, 1, 1), project(6)}},
		{"the order goes through Loop and Filter", api.OK, nodes{scan(1), sortBy(0, 2), scan(0), loop(1, 2), filter(3, 0), scan(2), sortBy(5, 4), merge(4, 6, 1, 1), project(7)}},
		{"the order of R goes through no Loop", api.ErrPlan, nodes{scan(0), scan(1), sortBy(1, 2), loop(0, 2, 0), scan(2), sortBy(4, 4), merge(3, 5, 1, 1), project(6)}},
		{"a later Sort ends the order", api.ErrPlan, nodes{scan(1), sortBy(0, 2), scan(0), loop(1, 2, 0), sortBy(3, 0), scan(2), sortBy(5, 4), merge(4, 6, 1, 1), project(7)}},
	})
}

func TestFairSort(t *testing.T) {
	sorted := func(cols ...int) nodes {
		return nodes{scan(0), sortBy(0, cols...), scan(1), loop(1, 2, 0, 1), project(3), arrange(4)}
	}
	tryFairness(t, exampleQuery(), []fairness{
		{"all columns", api.OK, sorted(1, 0)},
		{"no columns", api.ErrPlan, sorted()},
		{"a column twice", api.ErrPlan, sorted(0, 1, 0)},
		{"a column of another source", api.ErrPlan, sorted(0, 2)},
		{"the column behind the last", api.ErrPlan, sorted(0, 3)},
		{"a column below all", api.ErrPlan, sorted(-1)},
		{"a long list", api.ErrPlan, sorted(make([]int, 1<<22)...)},
		{"of all sources", api.OK, nodes{scan(0), scan(1), loop(0, 1, 0, 1), sortBy(2, 2, 0, 1), project(3), arrange(4)}},
	})
}

func TestFairEnds(t *testing.T) {
	plain := api.Query{From: []int{0}, Where: where(one(equals(0, 1))), Select: []int{1}}
	grouping := api.Query{From: []int{0}, Group: true, Keys: []int{1}}
	tryFairness(t, plain, []fairness{
		{"Project", api.OK, nodes{scan(0), filter(0, 0), project(1)}},
		{"Scan", api.ErrPlan, nodes{scan(0)}},
		{"Filter", api.ErrPlan, nodes{scan(0), filter(0, 0)}},
		{"Sort", api.ErrPlan, nodes{scan(0), filter(0, 0), sortBy(1, 0)}},
		{"Group of a query that does not group", api.ErrPlan, nodes{scan(0), filter(0, 0), group(1)}},
		{"Stream of a query that does not group", api.ErrPlan, nodes{scan(0), filter(0, 0), stream(1)}},
		{"Arrange without Order", api.ErrPlan, nodes{scan(0), filter(0, 0), project(1), arrange(2)}},
		{"Project of Project", api.ErrPlan, nodes{scan(0), filter(0, 0), project(1), project(2)}},
		{"Filter of Project", api.ErrPlan, nodes{scan(0), filter(0, 0), project(1), filter(2, 0)}},
		{"Sort of Project", api.ErrPlan, nodes{scan(0), filter(0, 0), project(1), sortBy(2, 1), project(3)}},
		{"Project without the clause", api.ErrPlan, nodes{scan(0), project(0)}},
	})
	tryFairness(t, grouping, []fairness{
		{"Group", api.OK, nodes{scan(0), group(0)}},
		{"Project of a query that groups", api.ErrPlan, nodes{scan(0), project(0)}},
		{"Arrange without Order", api.ErrPlan, nodes{scan(0), group(0), arrange(1)}},
		{"Group of Group", api.ErrPlan, nodes{scan(0), group(0), group(1)}},
		{"Group of a sorted Stream", api.ErrPlan, nodes{scan(0), sortBy(0, 1), stream(1), group(2)}},
	})
	plain.Order, grouping.Order = []int{0}, []int{1}
	tryFairness(t, plain, []fairness{
		{"Arrange of Filter", api.ErrPlan, nodes{scan(0), filter(0, 0), arrange(1)}},
		{"Arrange of Filter, and Project", api.ErrPlan, nodes{scan(0), filter(0, 0), arrange(1), project(2)}},
		{"Arrange of Arrange", api.OK, nodes{scan(0), filter(0, 0), project(1), arrange(2), arrange(3)}},
		{"Project of Arrange", api.ErrPlan, nodes{scan(0), filter(0, 0), project(1), arrange(2), project(3)}},
		{"Filter of Arrange", api.ErrPlan, nodes{scan(0), filter(0, 0), project(1), arrange(2), filter(3, 0)}},
	})
	tryFairness(t, grouping, []fairness{
		{"Arrange of Group", api.OK, nodes{scan(0), group(0), arrange(1)}},
		{"Arrange of Stream", api.OK, nodes{scan(0), sortBy(0, 1), stream(1), arrange(2)}},
		{"Group where there is an Order", api.ErrPlan, nodes{scan(0), group(0)}},
		{"Group of what is sorted, where there is an Order", api.ErrPlan, nodes{scan(0), sortBy(0, 1), group(1)}},
	})
}

// TestFairOrder: when a Project or a Stream may stand at the end of a plan
// of a query with an Order.
func TestFairOrder(t *testing.T) {
	for _, c := range []struct {
		name          string
		selects, keys []int
		order, cols   []int
		want          api.Errno
	}{
		{"Project, sorted so", []int{0, 1}, nil, []int{1}, []int{1}, api.OK},
		{"Project, sorted by more", []int{0, 1}, nil, []int{1}, []int{1, 0}, api.OK},
		{"Project, sorted by all", []int{0, 1}, nil, []int{1, 0}, []int{1, 0}, api.OK},
		{"Project, sorted by less", []int{0, 1}, nil, []int{1, 0}, []int{1}, api.ErrPlan},
		{"Project, sorted by others", []int{0, 1}, nil, []int{1}, []int{0, 1}, api.ErrPlan},
		{"Project, the places are not the columns", []int{1, 0}, nil, []int{1}, []int{0}, api.OK},
		{"Project, sorted by the places", []int{1, 0}, nil, []int{1}, []int{1}, api.ErrPlan},
		{"Project, a column in two places", []int{1, 1}, nil, []int{0, 1}, []int{1, 0}, api.ErrPlan},
		{"Stream, the key", nil, []int{1}, []int{0}, []int{1}, api.OK},
		{"Stream, sorted by more", nil, []int{1}, []int{0}, []int{1, 0}, api.OK},
		{"Stream, both keys", nil, []int{1, 0}, []int{0, 1}, []int{1, 0}, api.OK},
		{"Stream, the first of both keys", nil, []int{1, 0}, []int{0}, []int{1, 0}, api.OK},
		{"Stream, the second of both keys", nil, []int{1, 0}, []int{1}, []int{1, 0}, api.ErrPlan},
		{"Stream, the keys turned", nil, []int{1, 0}, []int{1, 0}, []int{1, 0}, api.ErrPlan},
		{"Stream, how many there are", nil, []int{1}, []int{1}, []int{1}, api.ErrPlan},
		{"Stream, more than the keys", nil, []int{1}, []int{0, 1}, []int{1}, api.ErrPlan},
		{"Stream, no keys", nil, nil, []int{0}, []int{1}, api.ErrPlan},
		{"Stream, not sorted by the keys", nil, []int{1}, []int{0}, []int{0, 1}, api.ErrPlan},
		{"Stream, sorted by one key of two", nil, []int{1, 0}, []int{0}, []int{1}, api.ErrPlan},
		{"Stream, the keys sorted in turn", nil, []int{0, 1}, []int{0}, []int{1, 0}, api.ErrPlan},
	} {
		q := api.Query{From: []int{0}, Select: c.selects, Group: c.selects == nil, Keys: c.keys, Order: c.order}
		end := project(1)
		if q.Group {
			end = stream(1)
		}
		tryFairness(t, q, []fairness{{c.name, c.want, nodes{scan(0), sortBy(0, c.cols...), end}}})
	}
	tryFairness(t, api.Query{From: []int{0}, Group: true}, []fairness{{"Stream without Keys", api.OK, nodes{scan(0), stream(0)}}})
	tryFairness(t, api.Query{From: []int{0}, Group: true, Keys: []int{0}}, []fairness{{"Stream of what is not sorted", api.ErrPlan, nodes{scan(0), stream(0)}}})
}

// TestFairFiveSources: as many sources, clauses and columns as there may be.
func TestFairFiveSources(t *testing.T) {
	cat := []api.Table{{Cols: 4, Rows: 10, Kinds: [4]int{1, 2, 3, 4}}}
	q := api.Query{From: []int{0, 0, 0, 0, 0}, Select: []int{19, 0}, Order: []int{0, 1}}
	for c := range 8 {
		q.Where = append(q.Where, one(eq(c, c+12)))
	}
	all := []int{0, 1, 2, 3, 4, 5, 6, 7}
	cols := []int{19, 0, 1, 2, 3, 4, 5, 6, 7, 8, 9, 10, 11, 12, 13, 14, 15, 16, 17, 18}
	plan := nodes{scan(4), scan(3), loop(0, 1), scan(2), scan(1), loop(3, 4), scan(0), loop(2, 5, 4, 5, 6, 7), loop(7, 6, all...), sortBy(8, cols...), project(9)}
	if e := scout.Fair(cat, q, plan); e != api.OK {
		t.Errorf("P5: Fair of a plan of five sources: %d", e)
	}
	db := [][][]int{{{1, 2, 3, 4}, {1, null, 3, 4}, {1, 2, 3, 4}}}
	rows, e := scout.Exec(cat, q, plan, db)
	if answer := oracle(q, db); e != api.OK || len(answer) == 0 || !sameAnswer(q, rows, answer) {
		t.Errorf("P5: Exec of a plan of five sources: %v, %d, want %v", rows, e, answer)
	}
	plan[9].Cols = append(slices.Clone(cols), 20)
	if e := scout.Fair(cat, q, plan); e != api.ErrPlan {
		t.Errorf("P5: Fair with a column behind the last of twenty: %d", e)
	}
}

// TestFairFirstError: the errors of Check go first, then ErrPlan, then ErrData.
func TestFairFirstError(t *testing.T) {
	wrong := nodes{scan(7)}
	full, bad := exampleQuery(), exampleQuery()
	full.Where, bad.Select = make([]api.Clause, 9), nil
	for _, c := range []struct {
		cat  []api.Table
		q    api.Query
		plan nodes
		db   [][][]int
		want api.Errno // of Exec
	}{
		{nil, full, wrong, nil, api.ErrCatalog},
		{exampleCatalog(), full, wrong, nil, api.ErrFull},
		{exampleCatalog(), bad, wrong, nil, api.ErrQuery},
		{exampleCatalog(), bad, examplePlan(), exampleData(), api.ErrQuery},
		{exampleCatalog(), exampleQuery(), wrong, nil, api.ErrPlan},
		{exampleCatalog(), exampleQuery(), wrong, exampleData(), api.ErrPlan},
		{exampleCatalog(), exampleQuery(), examplePlan(), nil, api.ErrData},
		{exampleCatalog(), exampleQuery(), examplePlan(), exampleData(), api.OK},
	} {
		want := c.want
		if want == api.ErrData {
			want = api.OK
		}
		if e := scout.Fair(c.cat, c.q, c.plan); e != want {
			t.Errorf("P5: Fair: %d, want %d", e, want)
		}
		cost, e := scout.Cost(c.cat, c.q, c.plan)
		if e != want || (cost == 0) != (want != api.OK) {
			t.Errorf("P6: Cost: %d, %d, want %d", cost, e, want)
		}
		rows, e := scout.Exec(c.cat, c.q, c.plan, c.db)
		if e != c.want || (rows == nil) != (c.want != api.OK) {
			t.Errorf("P5: Exec: %v, %d, want %d", rows, e, c.want)
		}
	}
}
