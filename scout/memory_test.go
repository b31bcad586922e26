package scout_test

import (
	"math/rand"
	"reflect"
	"slices"
	"testing"

	"scout/api"
	"scout/scout"
)

const mark = 77777

// arguments: what is handed in, with spare room behind each list, which is marked.
type arguments struct {
	cat []api.Table
	q   api.Query
	db  [][][]int
}

func roomy[T any](list []T, spare ...T) []T {
	return append(slices.Clone(list), spare...)[:len(list)]
}

func roomyArguments(cat []api.Table, q api.Query, db [][][]int) arguments {
	a := arguments{cat: roomy(cat, api.Table{Cols: mark}, api.Table{Rows: mark})}
	a.q = api.Query{
		Group:  q.Group,
		From:   roomy(q.From, mark, mark),
		Keys:   roomy(q.Keys, mark, mark),
		Sums:   roomy(q.Sums, mark, mark),
		Select: roomy(q.Select, mark, mark),
		Order:  roomy(q.Order, mark, mark),
	}
	for _, clause := range q.Where {
		a.q.Where = append(a.q.Where, api.Clause{Alts: roomy(clause.Alts, api.Cond{Left: mark}, api.Cond{Right: mark})})
	}
	a.q.Where = roomy(a.q.Where, api.Clause{Alts: []api.Cond{{Op: mark}}})
	for _, table := range db {
		var rows [][]int
		for _, row := range table {
			rows = append(rows, roomy(row, mark, mark, mark))
		}
		a.db = append(a.db, roomy(rows, []int{mark}))
	}
	a.db = roomy(a.db, [][]int{{mark}})
	return a
}

// whole: a copy of a list with all that stands behind it.
func whole[T any](list []T) []T {
	return slices.Clone(list[:cap(list)])
}

// picture: a copy of all that the arguments hold, spare room among it.
func (a arguments) picture() arguments {
	p := arguments{cat: whole(a.cat), db: whole(a.db)}
	p.q = api.Query{
		Group:  a.q.Group,
		From:   whole(a.q.From),
		Keys:   whole(a.q.Keys),
		Sums:   whole(a.q.Sums),
		Select: whole(a.q.Select),
		Order:  whole(a.q.Order),
		Where:  whole(a.q.Where),
	}
	for i, clause := range p.q.Where {
		p.q.Where[i].Alts = whole(clause.Alts)
	}
	for i, table := range p.db {
		p.db[i] = whole(table)
		for j, row := range p.db[i] {
			p.db[i][j] = whole(row)
		}
	}
	return p
}

// scribble writes into all that a list of rows holds, spare room among it.
func scribble(rows [][]int) {
	rows = rows[:cap(rows)]
	for i, row := range rows {
		row = row[:cap(row)]
		for j := range row {
			row[j] = -mark
		}
		rows[i] = []int{-mark}
	}
}

func cloneRows(rows [][]int) [][]int {
	var copied [][]int
	for _, row := range rows {
		copied = append(copied, slices.Clone(row))
	}
	return copied
}

// memoryCases: of each kind of answer one, and cases at random.
func memoryCases() []arguments {
	cases := []arguments{roomyArguments(exampleCatalog(), exampleQuery(), exampleData())}
	for _, q := range []api.Query{
		{From: []int{0}, Select: []int{0, 1}},
		{From: []int{0}, Select: []int{0, 1}, Order: []int{1}},
		{From: []int{0, 1, 0}, Select: []int{0, 1, 2, 3, 4}},
		{From: []int{0, 1}, Group: true, Sums: []int{0, 0}},
		{From: []int{0, 1}, Group: true, Keys: []int{1, 2}, Sums: []int{0}, Order: []int{2, 0}},
		{From: []int{1, 1}, Group: true, Keys: []int{0, 1}},
	} {
		cases = append(cases, roomyArguments(exampleCatalog(), q, exampleData()))
	}
	r := rand.New(rand.NewSource(2))
	for range 500 {
		cases = append(cases, roomyArguments(randomCase(r)))
	}
	return cases
}

// TestNothingHandedInIsChanged: P2, of calls that go well and calls that are refused.
func TestNothingHandedInIsChanged(t *testing.T) {
	for k, a := range memoryCases() {
		before := a.picture()
		if e := scout.Check(a.cat, a.q); e != api.OK {
			t.Fatalf("P3: Check, case %d: %d", k, e)
		}
		if _, e := scout.Eval(a.cat, a.q, a.db); e != api.OK {
			t.Fatalf("P4: Eval, case %d: %d", k, e)
		}
		if !reflect.DeepEqual(before, a.picture()) {
			t.Fatalf("P2: case %d: what was handed in is changed: %+v", k, a)
		}
		refused := a
		refused.db = a.db[:len(a.db)-1]
		scout.Eval(refused.cat, refused.q, refused.db)
		refused.q.Order = make([]int, 5)
		scout.Eval(refused.cat, refused.q, refused.db)
		scout.Check(nil, refused.q)
		if !reflect.DeepEqual(before, a.picture()) {
			t.Fatalf("P2: case %d: a refused call changed what was handed in: %+v", k, a)
		}
	}
}

// TestAnswersAreNewMemory: P2. Whoever writes into an answer, or behind its lists, changes nothing else.
func TestAnswersAreNewMemory(t *testing.T) {
	for k, a := range memoryCases() {
		before := a.picture()
		first, _ := scout.Eval(a.cat, a.q, a.db)
		second, _ := scout.Eval(a.cat, a.q, a.db)
		want := cloneRows(second)
		if !sameRows(first, second) {
			t.Fatalf("P2: case %d: Eval answers %v, then %v", k, first, second)
		}
		scribble(first)
		if !reflect.DeepEqual(before, a.picture()) {
			t.Fatalf("P2: case %d: an answer shares memory with what was handed in", k)
		}
		if !sameRows(second, want) {
			t.Fatalf("P2: case %d: two answers share memory", k)
		}
		third, _ := scout.Eval(a.cat, a.q, a.db)
		if !sameRows(third, want) {
			t.Fatalf("P2: case %d: a later answer is another one: %v, want %v", k, third, want)
		}
	}
}

// TestRowsOfAnAnswerShareNothing: P2. Each row has its memory for itself.
func TestRowsOfAnAnswerShareNothing(t *testing.T) {
	for k, a := range memoryCases() {
		got, _ := scout.Eval(a.cat, a.q, a.db)
		want := cloneRows(got)
		for i := range got {
			scribble(got[i : i+1 : i+1])
			if !sameRows(got[i+1:], want[i+1:]) {
				t.Fatalf("P2: case %d: row %d shares memory with a later one", k, i)
			}
		}
		again, _ := scout.Eval(a.cat, a.q, a.db)
		for i := len(again) - 1; i >= 0; i-- {
			scribble(again[i : i+1 : i+1])
			if !sameRows(again[:i], want[:i]) {
				t.Fatalf("P2: case %d: row %d shares memory with an earlier one", k, i)
			}
		}
	}
}

// TestAnswersKeepNothing: P2. An answer stays what it was when what was handed in is changed later.
func TestAnswersKeepNothing(t *testing.T) {
	for k, a := range memoryCases() {
		got, _ := scout.Eval(a.cat, a.q, a.db)
		want := cloneRows(got)
		for _, table := range a.db {
			scribble(table)
		}
		for _, list := range [][]int{a.q.From, a.q.Keys, a.q.Sums, a.q.Select, a.q.Order} {
			scribble([][]int{list})
		}
		clear(a.q.Where[:cap(a.q.Where)])
		clear(a.cat[:cap(a.cat)])
		if !sameRows(got, want) {
			t.Fatalf("P2: case %d: an answer changed behind its call: %v, want %v", k, got, want)
		}
	}
}

// TestListsHandedInTwice: P2. The same list may stand in several places.
func TestListsHandedInTwice(t *testing.T) {
	list := []int{1, 0}
	table := [][]int{list, {0, 1}, list}
	cat := exampleCatalog()
	cat[1] = cat[0]
	q := api.Query{From: list, Group: true, Keys: list, Sums: list, Order: list}
	got, e := scout.Eval(cat, q, [][][]int{table, table})
	if e != api.OK || !sameRows(got, [][]int{{1, 0, 3, 3, 0}, {0, 1, 6, 0, 6}}) {
		t.Errorf("P2: Eval of lists that stand in several places: %v, %d", got, e)
	}
	if !slices.Equal(list, []int{1, 0}) {
		t.Errorf("P2: a list that stands in several places is changed: %v", list)
	}
}
