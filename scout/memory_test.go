package scout_test

import (
	"math/rand"
	"reflect"
	"slices"
	"testing"

	"scout/api"
	"scout/scout"
)

const mark = 77777

// arguments: what is handed in, with spare room behind each list, which is marked.
type arguments struct {
	cat  []api.Table
	q    api.Query
	db   [][][]int
	plan []api.Node
}

// answers: the calls that tell lists, each by its name.
func answers() map[string]func(a arguments) ([][]int, api.Errno) {
	return map[string]func(a arguments) ([][]int, api.Errno){
		"Eval": func(a arguments) ([][]int, api.Errno) { return scout.Eval(a.cat, a.q, a.db) },
		"Exec": func(a arguments) ([][]int, api.Errno) { return scout.Exec(a.cat, a.q, a.plan, a.db) },
	}
}

func roomy[T any](list []T, spare ...T) []T {
	return append(slices.Clone(list), spare...)[:len(list)]
}

func roomyArguments(cat []api.Table, q api.Query, db [][][]int, plan []api.Node) arguments {
	a := arguments{cat: roomy(cat, api.Table{Cols: mark}, api.Table{Rows: mark})}
	a.q = api.Query{
		Group:  q.Group,
		From:   roomy(q.From, mark, mark),
		Keys:   roomy(q.Keys, mark, mark),
		Sums:   roomy(q.Sums, mark, mark),
		Select: roomy(q.Select, mark, mark),
		Order:  roomy(q.Order, mark, mark),
	}
	for _, clause := range q.Where {
		a.q.Where = append(a.q.Where, api.Clause{Alts: roomy(clause.Alts, api.Cond{Left: mark}, api.Cond{Right: mark})})
	}
	a.q.Where = roomy(a.q.Where, api.Clause{Alts: []api.Cond{{Op: mark}}})
	for _, table := range db {
		var rows [][]int
		for _, row := range table {
			rows = append(rows, roomy(row, mark, mark, mark))
		}
		a.db = append(a.db, roomy(rows, []int{mark}))
	}
	a.db = roomy(a.db, [][]int{{mark}})
	for _, n := range plan {
		n.Clauses, n.Cols = roomy(n.Clauses, mark, mark), roomy(n.Cols, mark, mark)
		a.plan = append(a.plan, n)
	}
	a.plan = roomy(a.plan, api.Node{Kind: mark})
	return a
}

// whole: a copy of a list with all that stands behind it.
func whole[T any](list []T) []T {
	return slices.Clone(list[:cap(list)])
}

// picture: a copy of all that the arguments hold, spare room among it.
func (a arguments) picture() arguments {
	p := arguments{cat: whole(a.cat), db: whole(a.db), plan: whole(a.plan)}
	for i, n := range p.plan {
		p.plan[i].Clauses, p.plan[i].Cols = whole(n.Clauses), whole(n.Cols)
	}
	p.q = api.Query{
		Group:  a.q.Group,
		From:   whole(a.q.From),
		Keys:   whole(a.q.Keys),
		Sums:   whole(a.q.Sums),
		Select: whole(a.q.Select),
		Order:  whole(a.q.Order),
		Where:  whole(a.q.Where),
	}
	for i, clause := range p.q.Where {
		p.q.Where[i].Alts = whole(clause.Alts)
	}
	for i, table := range p.db {
		p.db[i] = whole(table)
		for j, row := range p.db[i] {
			p.db[i][j] = whole(row)
		}
	}
	return p
}

// scribble writes into all that a list of rows holds, spare room among it.
func scribble(rows [][]int) {
	rows = rows[:cap(rows)]
	for i, row := range rows {
		row = row[:cap(row)]
		for j := range row {
			row[j] = -mark
		}
		rows[i] = []int{-mark}
	}
}

func cloneRows(rows [][]int) [][]int {
	var copied [][]int
	for _, row := range rows {
		copied = append(copied, slices.Clone(row))
	}
	return copied
}

// memoryCases: of each kind of answer one, and cases at random.
func memoryCases() []arguments {
	cases := []arguments{roomyArguments(exampleCatalog(), exampleQuery(), exampleData(), examplePlan())}
	r := rand.New(rand.NewSource(2))
	for _, q := range []api.Query{
		{From: []int{0}, Select: []int{0, 1}},
		{From: []int{0}, Select: []int{0, 1}, Order: []int{1}},
		{From: []int{0, 1, 0}, Select: []int{0, 1, 2, 3, 4}},
		{From: []int{0, 1}, Group: true, Sums: []int{0, 0}},
		{From: []int{0, 1}, Group: true, Keys: []int{1, 2}, Sums: []int{0}, Order: []int{2, 0}},
		{From: []int{1, 1}, Group: true, Keys: []int{0, 1}},
	} {
		for range 10 {
			plan := randomPlan(r, exampleCatalog(), q)
			cases = append(cases, roomyArguments(exampleCatalog(), q, exampleData(), plan))
		}
	}
	for range 500 {
		cases = append(cases, roomyArguments(plannedCase(r)))
	}
	return cases
}

// TestNothingHandedInIsChanged: P2, of calls that go well and calls that are refused.
func TestNothingHandedInIsChanged(t *testing.T) {
	for k, a := range memoryCases() {
		before := a.picture()
		callAll(t, a, api.OK, api.OK)
		if !reflect.DeepEqual(before, a.picture()) {
			t.Fatalf("P2: case %d: what was handed in is changed: %+v", k, a)
		}
		refused := a
		refused.db = a.db[:len(a.db)-1]
		callAll(t, refused, api.OK, api.ErrData)
		refused.plan = a.plan[:len(a.plan)-1]
		scout.Fair(refused.cat, refused.q, refused.plan)
		scout.Cost(refused.cat, refused.q, refused.plan)
		scout.Exec(refused.cat, refused.q, refused.plan, a.db)
		refused.q.Order = make([]int, 5)
		callAll(t, refused, api.ErrFull, api.ErrFull)
		refused.cat = nil
		callAll(t, refused, api.ErrCatalog, api.ErrCatalog)
		if !reflect.DeepEqual(before, a.picture()) {
			t.Fatalf("P2: case %d: a refused call changed what was handed in: %+v", k, a)
		}
	}
}

// callAll: every call, those without a database answer want, those with one withData.
func callAll(t *testing.T, a arguments, want, withData api.Errno) {
	t.Helper()
	check, fair := scout.Check(a.cat, a.q), scout.Fair(a.cat, a.q, a.plan)
	_, cost := scout.Cost(a.cat, a.q, a.plan)
	if check != want || fair != want || cost != want {
		t.Fatalf("Check, Fair, Cost of %+v: %d, %d, %d, want %d", a, check, fair, cost, want)
	}
	for name, call := range answers() {
		if _, e := call(a); e != withData {
			t.Fatalf("%s of %+v: %d, want %d", name, a, e, withData)
		}
	}
}

// TestAnswersAreNewMemory: P2. Whoever writes into an answer, or behind its lists, changes nothing else.
func TestAnswersAreNewMemory(t *testing.T) {
	for k, a := range memoryCases() {
		before := a.picture()
		for name, call := range answers() {
			first, _ := call(a)
			second, _ := call(a)
			want := cloneRows(second)
			if !sameRows(first, second) {
				t.Fatalf("P2: case %d: %s answers %v, then %v", k, name, first, second)
			}
			scribble(first)
			if !reflect.DeepEqual(before, a.picture()) {
				t.Fatalf("P2: case %d: an answer of %s shares memory with what was handed in", k, name)
			}
			if !sameRows(second, want) {
				t.Fatalf("P2: case %d: two answers of %s share memory", k, name)
			}
			if third, _ := call(a); !sameRows(third, want) {
				t.Fatalf("P2: case %d: a later answer of %s is another one: %v, want %v", k, name, third, want)
			}
		}
	}
}

// TestRowsOfAnAnswerShareNothing: P2. Each row has its memory for itself.
func TestRowsOfAnAnswerShareNothing(t *testing.T) {
	for k, a := range memoryCases() {
		for name, call := range answers() {
			got, _ := call(a)
			want := cloneRows(got)
			for i := range got {
				scribble(got[i : i+1 : i+1])
				if !sameRows(got[i+1:], want[i+1:]) {
					t.Fatalf("P2: case %d: row %d of %s shares memory with a later one", k, i, name)
				}
			}
			again, _ := call(a)
			for i := len(again) - 1; i >= 0; i-- {
				scribble(again[i : i+1 : i+1])
				if !sameRows(again[:i], want[:i]) {
					t.Fatalf("P2: case %d: row %d of %s shares memory with an earlier one", k, i, name)
				}
			}
		}
	}
}

// TestAnswersKeepNothing: P2. An answer stays what it was when what was handed in is changed later.
func TestAnswersKeepNothing(t *testing.T) {
	for name, call := range answers() {
		for k, a := range memoryCases() {
			got, _ := call(a)
			want := cloneRows(got)
			for _, table := range a.db {
				scribble(table)
			}
			for _, list := range [][]int{a.q.From, a.q.Keys, a.q.Sums, a.q.Select, a.q.Order} {
				scribble([][]int{list})
			}
			clear(a.q.Where[:cap(a.q.Where)])
			clear(a.cat[:cap(a.cat)])
			for _, n := range a.plan {
				scribble([][]int{n.Clauses, n.Cols})
			}
			clear(a.plan[:cap(a.plan)])
			if !sameRows(got, want) {
				t.Fatalf("P2: case %d: an answer of %s changed behind its call: %v, want %v", k, name, got, want)
			}
		}
	}
}

// TestListsHandedInTwice: P2. The same list may stand in several places.
func TestListsHandedInTwice(t *testing.T) {
	list := []int{1, 0}
	table := [][]int{list, {0, 1}, list}
	cat := exampleCatalog()
	cat[1] = cat[0]
	q := api.Query{From: list, Group: true, Keys: list, Sums: list, Order: list}
	got, e := scout.Eval(cat, q, [][][]int{table, table})
	if e != api.OK || !sameRows(got, [][]int{{1, 0, 3, 3, 0}, {0, 1, 6, 0, 6}}) {
		t.Errorf("P2: Eval of lists that stand in several places: %v, %d", got, e)
	}
	q.Order = []int{0, 1}
	plan := nodes{scan(0), sortBy(0, list...), scan(1), loop(1, 2), stream(3)}
	plan[1].Cols = list
	got, e = scout.Exec(cat, q, plan, [][][]int{table, table})
	if e != api.OK || !sameRows(got, [][]int{{0, 1, 6, 0, 6}, {1, 0, 3, 3, 0}}) {
		t.Errorf("P2: Exec of lists that stand in several places: %v, %d", got, e)
	}
	if !slices.Equal(list, []int{1, 0}) {
		t.Errorf("P2: a list that stands in several places is changed: %v", list)
	}
}
