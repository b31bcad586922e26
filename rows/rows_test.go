package rows_test

import (
	"reflect"
	"testing"

	"scout/api"
	"scout/rows"
)

const null = api.Null

func sample() []rows.Row {
	return []rows.Row{{2, 1}, {null, 2}, {1, 3}, {2, 4}}
}

func all(rows.Row) bool { return true }

// operators: each one built on an input.
func operators() map[string]func(input rows.Rows) rows.Rows {
	return map[string]func(input rows.Rows) rows.Rows{
		"Filter":     func(in rows.Rows) rows.Rows { return rows.Filter(in, all) },
		"Project":    func(in rows.Rows) rows.Rows { return rows.Project(in, []int{1}) },
		"Loop left":  func(in rows.Rows) rows.Rows { return rows.Loop(in, rows.Scan(sample())) },
		"Loop right": func(in rows.Rows) rows.Rows { return rows.Loop(rows.Scan(sample()), in) },
		"Hash left":  func(in rows.Rows) rows.Rows { return rows.Hash(in, rows.Scan(sample()), 0, 0) },
		"Hash right": func(in rows.Rows) rows.Rows { return rows.Hash(rows.Scan(sample()), in, 0, 0) },
		"Merge left": func(in rows.Rows) rows.Rows { return rows.Merge(in, rows.Scan(sample()), 1, 1) },
		"Merge right": func(in rows.Rows) rows.Rows {
			return rows.Merge(rows.Scan(sample()), in, 1, 1)
		},
		"Stream": func(in rows.Rows) rows.Rows { return rows.Stream(in, []int{1}, []int{0}) },
		"Sort":   func(in rows.Rows) rows.Rows { return rows.Sort(in, []int{0}) },
		"Group":  func(in rows.Rows) rows.Rows { return rows.Group(in, []int{0}, []int{1}) },
	}
}

func TestOperators(t *testing.T) {
	in := rows.Scan(sample())
	for _, c := range []struct {
		name string
		got  rows.Rows
		want []rows.Row
	}{
		{"Scan", in, sample()},
		{"Scan of nothing", rows.Scan(nil), nil},
		{"Filter", rows.Filter(in, func(r rows.Row) bool { return r[0] == 2 }), []rows.Row{{2, 1}, {2, 4}}},
		{"Project", rows.Project(in, []int{1, 0, 1}), []rows.Row{{1, 2, 1}, {2, null, 2}, {3, 1, 3}, {4, 2, 4}}},
		{"Loop", rows.Loop(rows.Scan([]rows.Row{{8}, {9}}), rows.Scan([]rows.Row{{1, 2}, {3, 4}})), []rows.Row{{8, 1, 2}, {8, 3, 4}, {9, 1, 2}, {9, 3, 4}}},
		{"Loop without left rows", rows.Loop(rows.Scan(nil), in), nil},
		{"Loop without right rows", rows.Loop(in, rows.Scan(nil)), nil},
		{"Hash", rows.Hash(in, rows.Scan([]rows.Row{{4, 2}, {5, 1}, {null, 2}, {6, null}}), 0, 1), []rows.Row{{2, 1, 4, 2}, {2, 1, null, 2}, {1, 3, 5, 1}, {2, 4, 4, 2}, {2, 4, null, 2}}},
		{"Hash without left rows", rows.Hash(rows.Scan(nil), in, 0, 0), nil},
		{"Hash without right rows", rows.Hash(in, rows.Scan(nil), 0, 0), nil},
		{"Merge", rows.Merge(rows.Scan([]rows.Row{{null}, {1}, {2}, {2}, {4}}), rows.Scan([]rows.Row{{9, null}, {8, 0}, {7, 2}, {6, 2}, {5, 3}, {4, 4}}), 0, 1), []rows.Row{{2, 7, 2}, {2, 6, 2}, {2, 7, 2}, {2, 6, 2}, {4, 4, 4}}},
		{"Merge without left rows", rows.Merge(rows.Scan(nil), in, 1, 1), nil},
		{"Merge without right rows", rows.Merge(in, rows.Scan(nil), 1, 1), nil},
		{"Stream", rows.Stream(rows.Scan([]rows.Row{{null, null}, {null, 2}, {1, 3}, {2, null}}), []int{0}, []int{1}), []rows.Row{{null, 2, 2}, {1, 1, 3}, {2, 1, null}}},
		{"Stream without keys", rows.Stream(in, nil, []int{0}), []rows.Row{{4, 5}}},
		{"Stream without keys and rows", rows.Stream(rows.Scan(nil), nil, []int{0}), []rows.Row{{0, null}}},
		{"Stream without rows", rows.Stream(rows.Scan(nil), []int{0}, []int{0}), nil},
		{"Sort", rows.Sort(in, []int{0}), []rows.Row{{null, 2}, {1, 3}, {2, 1}, {2, 4}}},
		{"Sort by nothing", rows.Sort(in, nil), sample()},
		{"Group", rows.Group(in, []int{0}, []int{1}), []rows.Row{{2, 2, 5}, {null, 1, 2}, {1, 1, 3}}},
		{"Group without keys", rows.Group(in, nil, []int{0}), []rows.Row{{4, 5}}},
		{"Group without keys and rows", rows.Group(rows.Scan(nil), nil, []int{0}), []rows.Row{{0, null}}},
		{"Group without rows", rows.Group(rows.Scan(nil), []int{0}, []int{0}), nil},
	} {
		for turn := range 2 {
			if got := rows.Gather(c.got); !reflect.DeepEqual(got, c.want) {
				t.Errorf("%s, time %d: %v, want %v", c.name, turn, got, c.want)
			}
		}
	}
}

// TestEarlyEnd: whoever wants no more rows gets none, at whatever row that is.
func TestEarlyEnd(t *testing.T) {
	for name, operator := range operators() {
		whole := rows.Gather(operator(rows.Scan(sample())))
		for end := 1; end <= len(whole); end++ {
			var got []rows.Row
			for row := range operator(rows.Scan(sample())) {
				got = append(got, row)
				if len(got) == end {
					break
				}
			}
			if !reflect.DeepEqual(got, whole[:end]) {
				t.Errorf("%s, ended behind %d rows: %v, want %v", name, end, got, whole[:end])
			}
		}
	}
}

// TestOneByOne: no more rows are taken than are needed, but where an operator must gather.
func TestOneByOne(t *testing.T) {
	for name, operator := range operators() {
		taken := 0
		counted := func(yield func(rows.Row) bool) {
			for _, row := range sample() {
				taken++
				if !yield(row) {
					return
				}
			}
		}
		built := operator(counted)
		if taken != 0 {
			t.Errorf("%s takes %d rows ahead of being asked", name, taken)
		}
		for range built {
			break
		}
		want := 1
		switch name {
		case "Sort", "Group", "Loop right", "Hash right", "Merge right":
			want = len(sample())
		case "Stream":
			want = 2 // the second row tells that the first group is over
		}
		if taken != want {
			t.Errorf("%s takes %d rows for its first one, want %d", name, taken, want)
		}
	}
}

// TestInnerSideOnce: what is below the inner side of a join is done once.
func TestInnerSideOnce(t *testing.T) {
	times := 0
	inner := func(yield func(rows.Row) bool) {
		times++
		rows.Scan(sample())(yield)
	}
	outer := rows.Scan(sample())
	for name, joined := range map[string]rows.Rows{
		"Loop":  rows.Loop(outer, inner),
		"Hash":  rows.Hash(outer, inner, 1, 1),
		"Merge": rows.Merge(outer, inner, 1, 1),
	} {
		times = 0
		if got := rows.Gather(joined); len(got) == 0 || times != 1 {
			t.Errorf("%s: %d rows, its inner side was gone through %d times", name, len(got), times)
		}
	}
}

// TestInputsStay: no operator writes into the rows or the list of its input.
func TestInputsStay(t *testing.T) {
	for name, operator := range operators() {
		table := sample()
		for range operator(rows.Scan(table)) {
		}
		if !reflect.DeepEqual(table, sample()) {
			t.Errorf("%s writes into its input: %v", name, table)
		}
	}
}
