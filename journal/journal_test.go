package journal

import (
	"math"
	"math/rand"
	"reflect"
	"strings"
	"testing"

	"scout/api"
)

func numbers(r *rand.Rand, most int) []int {
	var list []int
	for range r.Intn(most + 1) {
		list = append(list, []int{0, 1, -1, r.Intn(2000) - 1000, math.MaxInt, math.MinInt}[r.Intn(6)])
	}
	return list
}

func number(r *rand.Rand) int {
	for {
		if list := numbers(r, 1); list != nil {
			return list[0]
		}
	}
}

// chance: a journal of any numbers, with lists no longer than may be.
func chance(r *rand.Rand) Journal {
	j := Journal{Cap: number(r), Picks: numbers(r, 30), Status: number(r)}
	for range r.Intn(api.MaxTables + 1) {
		t := api.Table{Rows: number(r)}
		t.Cols = copy(t.Kinds[:], numbers(r, api.MaxCols))
		j.Catalog = append(j.Catalog, t)
	}
	j.Query = api.Query{
		From:   numbers(r, api.MaxFrom),
		Group:  r.Intn(2) == 0,
		Keys:   numbers(r, api.MaxKeys),
		Sums:   numbers(r, api.MaxSums),
		Select: numbers(r, api.MaxSelect),
		Order:  numbers(r, api.MaxOrder),
	}
	for range r.Intn(api.MaxWhere + 1) {
		var clause api.Clause
		for range r.Intn(api.MaxAlts + 1) {
			clause.Alts = append(clause.Alts, api.Cond{Not: r.Intn(2) == 0, Op: number(r), Left: number(r), Const: r.Intn(2) == 0, Right: number(r)})
		}
		j.Query.Where = append(j.Query.Where, clause)
	}
	return j
}

// TestText: each number where it belongs.
func TestText(t *testing.T) {
	j := Journal{
		Catalog: []api.Table{{Cols: 2, Rows: 100, Kinds: [4]int{101, 11, -7, 7}}, {Cols: 1, Rows: 10, Kinds: [4]int{12}}},
		Query: api.Query{
			From: []int{0, 1, 0},
			Where: []api.Clause{
				{Alts: []api.Cond{{Op: api.Eq, Left: 1, Right: 2}}},
				{Alts: []api.Cond{{Op: api.Less, Left: 3, Const: true, Right: -5}, {Not: true, Op: api.Nil, Left: 4}}},
			},
			Select: []int{0, 2},
			Order:  []int{1},
		},
		Cap:    1000,
		Picks:  []int{3, 0, 12},
		Status: api.Running,
	}
	want := "scout 2 100 2 101 11 10 1 12 3 0 1 0 2 1 0 0 1 0 2 2 0 1 3 1 -5 1 2 4 0 0 0 0 0 2 0 2 1 1 1000 3 3 0 12 1"
	if got := j.Text(); got != want {
		t.Errorf("the text is %q, want %q", got, want)
	}
	j.Query.Select, j.Query.Group, j.Query.Keys, j.Query.Sums = nil, true, []int{4, 1}, []int{3}
	want = "scout 2 100 2 101 11 10 1 12 3 0 1 0 2 1 0 0 1 0 2 2 0 1 3 1 -5 1 2 4 0 0 1 2 4 1 1 3 0 1 1 1000 3 3 0 12 1"
	if got := j.Text(); got != want {
		t.Errorf("the text is %q, want %q", got, want)
	}
}

// TestReadAgain: what is told is read as it was.
func TestReadAgain(t *testing.T) {
	r := rand.New(rand.NewSource(1))
	for range 5000 {
		j := chance(r)
		if got := Read(j.Text()); !reflect.DeepEqual(got, j) {
			t.Fatalf("Read of %q: %+v, want %+v", j.Text(), got, j)
		}
	}
}

// TestReadPieces: what is missing counts as 0, and so does what can't be read.
func TestReadPieces(t *testing.T) {
	for _, text := range []string{"", " ", "scout", "scout ", "scout x", "scout -1", "scout 99999999999999999999", "scout 5", "scout 5 ", "\x00", "scout\t1"} {
		if got := Read(text); !reflect.DeepEqual(got, Journal{}) {
			t.Errorf("Read of %q: %+v, want nothing", text, got)
		}
	}
	r := rand.New(rand.NewSource(2))
	for range 2000 {
		text := chance(r).Text()
		Read(text[:r.Intn(len(text))])
		at := r.Intn(len(text))
		Read(text[:at] + string(rune(r.Intn(300))) + text[at:])
	}
}

// TestReadLong: no list gets longer than may be, whatever is said of its length.
func TestReadLong(t *testing.T) {
	many := strings.Repeat("3 ", 1<<21)
	for _, text := range []string{
		many,
		title + " 9223372036854775807 " + many,
		title + " 0 9223372036854775807 " + many,
		title + " 0 0 9223372036854775807 " + many,
		title + " 0 0 0 0 9 9 9 9 9 9 9 9 9 9 9 9 9 9 9 9 9 9 9 9 " + many,
		title + " 0 0 0 0 0 0 0 0 1000 9223372036854775807 " + many,
		title + " 0 0 0 0 0 0 0 0 1000 9223372036854775807 1",
	} {
		j := Read(text)
		q := j.Query
		if len(j.Catalog) > api.MaxTables || len(j.Picks) > api.MaxSteps || len(q.From) > api.MaxFrom || len(q.Where) > api.MaxWhere || len(q.Keys) > api.MaxKeys {
			t.Errorf("Read of a long text: %d tables, %d picks, %d sources, %d clauses, %d keys", len(j.Catalog), len(j.Picks), len(q.From), len(q.Where), len(q.Keys))
		}
	}
}
