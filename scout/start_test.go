package scout_test

import (
	"math"
	"math/rand"
	"slices"
	"testing"

	"scout/api"
	"scout/scout"
)

func samePlan(a, b []api.Node) bool {
	return slices.EqualFunc(a, b, func(x, y api.Node) bool {
		if !slices.Equal(x.Clauses, y.Clauses) || !slices.Equal(x.Cols, y.Cols) {
			return false
		}
		return x.Kind == y.Kind && x.L == y.L && x.R == y.R && x.Source == y.Source && x.Key == y.Key
	})
}

func started(t *testing.T, cat []api.Table, q api.Query, most int) *scout.Planner {
	t.Helper()
	p, e := scout.Start(cat, q, most)
	if e != api.OK || p == nil {
		t.Fatalf("P7: Start of %+v, %+v with the cap %d: %d", cat, q, most, e)
	}
	return p
}

// TestFirstPlan: P7, node by node.
func TestFirstPlan(t *testing.T) {
	grouping := func(q api.Query) api.Query {
		q.Group, q.Keys, q.Select = true, []int{1}, nil
		return q
	}
	alone := api.Query{From: []int{1}, Select: []int{0}}
	clauses := api.Query{From: []int{0}, Where: where(one(lessThan(0, 5)), one(isNil(1))), Select: []int{0}}
	ordered := api.Query{From: []int{0}, Select: []int{0, 1}, Order: []int{1}}
	five := api.Query{From: []int{1, 0, 1, 0, 1}, Where: where(one(eq(0, 1)), one(eq(6, 3)), anyOf(isNil(2), isNil(5))), Select: []int{4, 0}, Order: []int{1, 0}}
	loops := nodes{scan(0), scan(1), loop(0, 1), scan(2), loop(2, 3), scan(3), loop(4, 5), scan(4), loop(6, 7)}
	for _, c := range []struct {
		name string
		q    api.Query
		plan nodes
	}{
		{"the example", exampleQuery(), nodes{scan(0), scan(1), loop(0, 1), filter(2, 0, 1), project(3), arrange(4)}},
		{"one source", alone, nodes{scan(0), project(0)}},
		{"one source with clauses", clauses, nodes{scan(0), filter(0, 0, 1), project(1)}},
		{"one source in an order", ordered, nodes{scan(0), project(0), arrange(1)}},
		{"one source, grouped", api.Query{From: []int{0}, Group: true}, nodes{scan(0), group(0)}},
		{"one source with clauses, grouped", grouping(clauses), nodes{scan(0), filter(0, 0, 1), group(1)}},
		{"one source in an order, grouped", grouping(ordered), nodes{scan(0), group(0), arrange(1)}},
		{"three sources", api.Query{From: []int{1, 1, 0}, Select: []int{3}}, nodes{scan(0), scan(1), loop(0, 1), scan(2), loop(2, 3), project(4)}},
		{"five sources", five, append(slices.Clone(loops), filter(8, 0, 1, 2), project(9), arrange(10))},
		{"five sources, grouped", grouping(five), append(slices.Clone(loops), filter(8, 0, 1, 2), group(9), arrange(10))},
	} {
		for _, most := range []int{1, 2, 999, 1000} {
			p := started(t, exampleCatalog(), c.q, most)
			plan, cost := p.Best()
			want, e := scout.Cost(exampleCatalog(), c.q, c.plan)
			if !samePlan(plan, c.plan) || e != api.OK || cost != want {
				t.Errorf("P7: the first plan of %s: %+v, %d, want %+v, %d", c.name, plan, cost, c.plan, want)
			}
			if p.Status() != api.Running || p.Steps() != 0 {
				t.Errorf("P7: %s: status %d, %d steps, want %d, 0", c.name, p.Status(), p.Steps(), api.Running)
			}
		}
	}
	if _, cost := started(t, exampleCatalog(), exampleQuery(), 1000).Best(); cost != 2376 {
		t.Errorf("P7: the first plan of the example costs %d, want 2376", cost)
	}
}

// TestStartErrors: P7. Check's errors come ahead of ErrCap, and with an error there is no planner.
func TestStartErrors(t *testing.T) {
	full := exampleQuery()
	full.From = make([]int, 6)
	wrong := exampleQuery()
	wrong.Order = []int{2}
	for _, c := range []struct {
		name string
		cat  []api.Table
		q    api.Query
		cap  int
		want api.Errno
	}{
		{"no catalog", nil, exampleQuery(), 1000, api.ErrCatalog},
		{"no catalog, no query, no cap", nil, full, 0, api.ErrCatalog},
		{"six sources", exampleCatalog(), full, 1000, api.ErrFull},
		{"six sources, no cap", exampleCatalog(), full, -1, api.ErrFull},
		{"a wrong Order", exampleCatalog(), wrong, 1, api.ErrQuery},
		{"a wrong Order, no cap", exampleCatalog(), wrong, 1001, api.ErrQuery},
		{"0", exampleCatalog(), exampleQuery(), 0, api.ErrCap},
		{"-1", exampleCatalog(), exampleQuery(), -1, api.ErrCap},
		{"1001", exampleCatalog(), exampleQuery(), 1001, api.ErrCap},
		{"the least number", exampleCatalog(), exampleQuery(), math.MinInt, api.ErrCap},
		{"the greatest number", exampleCatalog(), exampleQuery(), math.MaxInt, api.ErrCap},
	} {
		if p, e := scout.Start(c.cat, c.q, c.cap); e != c.want || p != nil {
			t.Errorf("P7: Start, %s: %v, %d, want %d", c.name, p, e, c.want)
		}
	}
}

// TestStartOfAnything: P1, P7. Whatever is handed in, there is an error or a planner that comes to an end.
func TestStartOfAnything(t *testing.T) {
	r := rand.New(rand.NewSource(21))
	seen := map[api.Errno]int{}
	for range 5000 {
		cat, q, _ := blend(r)
		most := anyNumber(r)
		want := scout.Check(cat, q)
		if want == api.OK && (most < 1 || most > 1000) {
			want = api.ErrCap
		}
		p, e := scout.Start(cat, q, most)
		seen[e]++
		if e != want || (p != nil) != (e == api.OK) {
			t.Fatalf("P7: Start of %+v, %+v, %d: %v, %d, want %d", cat, q, most, p, e, want)
		}
		if p == nil {
			continue
		}
		tick := anyNumber(r)
		status := p.Run(anyNumber(r), tick, anyList(r, 3))
		if status == api.Running {
			status = p.Run(api.MaxSteps, -1, anyList(r, 3))
		}
		if status != api.Done && status != api.Truncated && (status != api.Cancelled || tick < 0) {
			t.Fatalf("P9: %+v, %+v, %d: in the end the status is %d", cat, q, most, status)
		}
		plan, cost := p.Best()
		if same, e := scout.Cost(cat, q, plan); e != api.OK || same != cost {
			t.Fatalf("P8: %+v, %+v, %d: Best tells %d of %+v, Cost %d, %d", cat, q, most, cost, plan, same, e)
		}
	}
	for _, e := range []api.Errno{api.OK, api.ErrCatalog, api.ErrFull, api.ErrQuery, api.ErrCap} {
		if seen[e] < 100 {
			t.Errorf("the answer %d came only %d times: the cases tell too little", e, seen[e])
		}
	}
}
