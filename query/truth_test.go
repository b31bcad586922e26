package query

import (
	"testing"

	"scout/api"
)

// TestTruth: of conditions and clauses for the row 1, 2, Null.
func TestTruth(t *testing.T) {
	yes := api.Cond{Op: api.Less, Left: 0, Right: 1}
	no := api.Cond{Op: api.Eq, Left: 0, Const: true, Right: 2}
	unknown := api.Cond{Op: api.Less, Left: 1, Right: 2}
	for _, c := range []struct {
		name string
		want truth
		alts []api.Cond
	}{
		{"true", isTrue, []api.Cond{yes}},
		{"false", isFalse, []api.Cond{no}},
		{"unknown", isUnknown, []api.Cond{unknown}},
		{"not true", isFalse, []api.Cond{turned(yes)}},
		{"not false", isTrue, []api.Cond{turned(no)}},
		{"not unknown", isUnknown, []api.Cond{turned(unknown)}},
		{"Null equal to itself", isUnknown, []api.Cond{{Op: api.Eq, Left: 2, Right: 2}}},
		{"Null less than a value", isUnknown, []api.Cond{{Op: api.Less, Left: 2, Const: true, Right: 5}}},
		{"Nil of Null", isTrue, []api.Cond{{Op: api.Nil, Left: 2}}},
		{"Nil of a value", isFalse, []api.Cond{{Op: api.Nil, Left: 1}}},
		{"not Nil of a value", isTrue, []api.Cond{turned(api.Cond{Op: api.Nil, Left: 1})}},
		{"false or false", isFalse, []api.Cond{no, no}},
		{"false or unknown", isUnknown, []api.Cond{no, unknown}},
		{"unknown or false", isUnknown, []api.Cond{unknown, no}},
		{"unknown or true", isTrue, []api.Cond{unknown, yes}},
		{"true, false or unknown", isTrue, []api.Cond{yes, no, unknown}},
	} {
		clause := api.Clause{Alts: c.alts}
		row := []int{1, 2, api.Null}
		if got := clauseTruth(clause, row); got != c.want {
			t.Errorf("%s: %d, want %d", c.name, got, c.want)
		}
		if got := Holds([]api.Clause{clause}, row); got != (c.want == isTrue) {
			t.Errorf("%s: holds: %t", c.name, got)
		}
	}
	if !Holds(nil, []int{1}) {
		t.Errorf("no clauses do not hold")
	}
}

func turned(c api.Cond) api.Cond {
	c.Not = true
	return c
}
