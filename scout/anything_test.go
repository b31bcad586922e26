package scout_test

import (
	"math"
	"math/rand"
	"slices"
	"testing"

	"scout/api"
	"scout/scout"
)

// anyNumber: the bounds that there are, their neighbours, and the ends of all numbers.
func anyNumber(r *rand.Rand) int {
	near := []int{0, 1, 2, 3, 4, 5, 8, 50, 1000, 20000, 1000000, null, math.MaxInt32, math.MaxInt - 1}
	n := near[r.Intn(len(near))] + r.Intn(3) - 1
	if r.Intn(3) == 0 {
		n = -n - r.Intn(2)
	}
	if r.Intn(2) == 0 {
		n = r.Intn(3)
	}
	return n
}

func anyList(r *rand.Rand, most int) []int {
	if r.Intn(4) == 0 {
		return nil
	}
	return randomList(r, r.Intn(most+2), anyNumber)
}

func anyQuery(r *rand.Rand) api.Query {
	q := api.Query{
		From:   anyList(r, 5),
		Group:  r.Intn(2) == 0,
		Keys:   anyList(r, 4),
		Sums:   anyList(r, 4),
		Select: anyList(r, 8),
		Order:  anyList(r, 4),
	}
	for range r.Intn(4) {
		var clause api.Clause
		for range r.Intn(5) {
			clause.Alts = append(clause.Alts, api.Cond{Not: r.Intn(2) == 0, Op: anyNumber(r), Left: anyNumber(r), Const: r.Intn(2) == 0, Right: anyNumber(r)})
		}
		q.Where = append(q.Where, clause)
	}
	return q
}

func anyCatalog(r *rand.Rand) []api.Table {
	cat := make([]api.Table, r.Intn(11))
	for i := range cat {
		cat[i] = api.Table{Cols: anyNumber(r), Rows: anyNumber(r)}
		for j := range cat[i].Kinds {
			cat[i].Kinds[j] = anyNumber(r)
		}
	}
	return cat
}

func anyData(r *rand.Rand) [][][]int {
	db := make([][][]int, r.Intn(4))
	for i := range db {
		for range r.Intn(60) {
			db[i] = append(db[i], anyList(r, 4))
		}
	}
	return db
}

func anyPlan(r *rand.Rand) []api.Node {
	plan := make([]api.Node, r.Intn(6))
	for i := range plan {
		plan[i] = api.Node{Kind: anyNumber(r), L: anyNumber(r), R: anyNumber(r), Source: anyNumber(r), Clauses: anyList(r, 3), Key: anyNumber(r), Cols: anyList(r, 3)}
	}
	return plan
}

// wildPlan: a plan in which any number may stand anywhere.
func wildPlan(r *rand.Rand, plan []api.Node) []api.Node {
	plan = slices.Clone(plan)
	wild := anyPlan(r)
	for i := range wild {
		n := &plan[r.Intn(len(plan))]
		switch r.Intn(8) {
		case 0:
			*n = wild[i]
		case 1:
			n.Kind = wild[i].Kind
		case 2:
			n.L = wild[i].L
		case 3:
			n.R = wild[i].R
		case 4:
			n.Source = wild[i].Source
		case 5:
			n.Clauses = wild[i].Clauses
		case 6:
			n.Key = wild[i].Key
		case 7:
			n.Cols = wild[i].Cols
		}
	}
	return plan
}

// blend: each part of a case that is in order may give way to anything.
func blend(r *rand.Rand) ([]api.Table, api.Query, [][][]int) {
	cat, q, db := randomCase(r)
	wild := anyQuery(r)
	switch r.Intn(9) {
	case 0:
		cat = anyCatalog(r)
	case 1:
		q = wild
	case 2:
		db = anyData(r)
	case 3:
		q.From = wild.From
	case 4:
		q.Where = wild.Where
	case 5:
		q.Select, q.Order = wild.Select, wild.Order
	case 6:
		q.Group, q.Keys, q.Sums = wild.Group, wild.Keys, wild.Sums
	case 7:
		cat[r.Intn(len(cat))].Cols = anyNumber(r)
	case 8:
		cat, q, db = anyCatalog(r), wild, anyData(r)
	}
	return cat, q, db
}

// TestAnythingIsAnswered: P1. No call panics, and with an error there are no rows.
func TestAnythingIsAnswered(t *testing.T) {
	r := rand.New(rand.NewSource(3))
	seen := map[api.Errno]int{}
	for range 50000 {
		cat, q, db := blend(r)
		check := scout.Check(cat, q)
		rows, e := scout.Eval(cat, q, db)
		seen[e]++
		if check != api.OK && e != check || check == api.OK && e != api.OK && e != api.ErrData {
			t.Fatalf("P4: Check of %+v, %+v: %d, Eval on %v: %d", cat, q, check, db, e)
		}
		if e != api.OK && rows != nil {
			t.Fatalf("P1: Eval of %+v, %+v on %v: the error %d, and the rows %v", cat, q, db, e, rows)
		}
		if e == api.OK && !sameRows(rows, oracle(q, db)) {
			t.Fatalf("P4: Eval of %+v on %v: %v, want %v", q, db, rows, oracle(q, db))
		}
	}
	for _, e := range []api.Errno{api.OK, api.ErrCatalog, api.ErrFull, api.ErrQuery, api.ErrData} {
		if seen[e] < 500 {
			t.Errorf("the answer %d came only %d times: the cases tell too little", e, seen[e])
		}
	}
}

// TestAnyPlanIsAnswered: P1. No call panics, and with an error there is nothing else.
func TestAnyPlanIsAnswered(t *testing.T) {
	r := rand.New(rand.NewSource(7))
	seen := map[api.Errno]int{}
	for range 5000 {
		cat, q, db, plan := plannedCase(r)
		for range 4 {
			c, p, d := q, plan, db
			switch r.Intn(4) {
			case 0:
				_, c, d = blend(r)
			case 1:
				p = wildPlan(r, plan)
			case 2:
				p = anyPlan(r)
			case 3:
				d = anyData(r)
			}
			check := scout.Check(cat, c)
			fair := scout.Fair(cat, c, p)
			rows, e := scout.Exec(cat, c, p, d)
			cost, f := scout.Cost(cat, c, p)
			seen[e]++
			if check != api.OK && fair != check || check == api.OK && fair != api.OK && fair != api.ErrPlan {
				t.Fatalf("P5: Check of %+v, %+v: %d, Fair of %+v: %d", cat, c, check, p, fair)
			}
			if f != fair || fair != api.OK && e != fair || fair == api.OK && e != api.OK && e != api.ErrData {
				t.Fatalf("P5, P6: %+v, %+v, %+v, %v: Fair %d, Cost %d, Exec %d", cat, c, p, d, fair, f, e)
			}
			if e != api.OK && rows != nil || f != api.OK && cost != 0 {
				t.Fatalf("P1: %+v, %+v, %+v, %v: the errors %d, %d, and %v, %d", cat, c, p, d, e, f, rows, cost)
			}
		}
	}
	for _, e := range []api.Errno{api.OK, api.ErrFull, api.ErrQuery, api.ErrPlan, api.ErrData} {
		if seen[e] < 200 {
			t.Errorf("the answer %d came only %d times: the cases tell too little", e, seen[e])
		}
	}
}

// TestLongLists: P1. Lists of any length are refused, and in no time.
func TestLongLists(t *testing.T) {
	long := make([]int, 1<<22)
	for _, q := range []api.Query{
		{From: long, Select: []int{0}},
		{From: []int{0}, Select: long},
		{From: []int{0}, Select: []int{0}, Keys: long},
		{From: []int{0}, Select: []int{0}, Sums: long},
		{From: []int{0}, Select: []int{0}, Order: long},
		{From: []int{0}, Select: []int{0}, Where: make([]api.Clause, 1<<20)},
		{From: []int{0}, Select: []int{0}, Where: where(anyOf(make([]api.Cond, 1<<20)...))},
	} {
		if e := scout.Check(exampleCatalog(), q); e != api.ErrFull {
			t.Errorf("P3: Check of a long list: %d", e)
		}
	}
	if e := scout.Check(make([]api.Table, 1<<20), exampleQuery()); e != api.ErrCatalog {
		t.Errorf("P3: Check of a long catalog: %d", e)
	}
	rising := make([]int, 1<<22)
	for i := range rising {
		rising[i] = i
	}
	for _, list := range [][]int{long, rising} {
		for _, plan := range []nodes{
			{scan(0), filter(0, list...), project(1)},
			{scan(0), scan(1), hash(0, 1, 0, list...), project(2)},
			{scan(0), sortBy(0, list...), project(1)},
			{scan(0), sortBy(0, list...), stream(1)},
		} {
			if e := scout.Fair(exampleCatalog(), exampleQuery(), plan); e != api.ErrPlan {
				t.Errorf("P5: Fair of a long list: %d", e)
			}
		}
	}
	for _, db := range [][][][]int{make([][][]int, 1<<20), {make([][]int, 1<<20), nil}, {{long}, nil}} {
		if rows, e := scout.Eval(exampleCatalog(), exampleQuery(), db); e != api.ErrData || rows != nil {
			t.Errorf("P4: Eval of a long database: %d", e)
		}
	}
}
