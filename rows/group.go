package rows

import (
	"slices"

	"scout/api"
)

// groupKey is the values of the keys, with zeros behind them: all rows of one
// grouping have as many keys.
type groupKey [api.MaxKeys]int

// group is what is known so far of the rows of one group.
type group struct {
	keys  []int
	count int
	sums  []int
}

// Group hands out for each group, in the order of the groups' first rows, its
// keys, how many rows it has, and its sums. There are at most MaxKeys keys.
func Group(input Rows, keys, sums []int) Rows {
	return func(yield func(Row) bool) {
		for _, g := range gatherGroups(input, keys, sums) {
			if !yield(g.row()) {
				return
			}
		}
	}
}

// Stream hands out what Group does, out of rows in which those of one group
// stand one behind the other: so each group is told when the next one comes.
func Stream(input Rows, keys, sums []int) Rows {
	return func(yield func(Row) bool) {
		var current *group
		if len(keys) == 0 {
			// The one group is there even if no row comes.
			current = newGroup(nil, len(sums))
		}
		for row := range input {
			values := pick(row, keys)
			if current != nil && !slices.Equal(values, current.keys) {
				if !yield(current.row()) {
					return
				}
				current = nil
			}
			if current == nil {
				current = newGroup(values, len(sums))
			}
			current.add(row, sums)
		}
		if current != nil {
			yield(current.row())
		}
	}
}

func gatherGroups(input Rows, keys, sums []int) []*group {
	var groups []*group
	numbers := map[groupKey]int{}
	if len(keys) == 0 {
		// The one group is there even if no row comes.
		groups = append(groups, newGroup(nil, len(sums)))
		numbers[groupKey{}] = 0
	}
	for row := range input {
		values := pick(row, keys)
		var key groupKey
		copy(key[:], values)
		number, known := numbers[key]
		if !known {
			number = len(groups)
			numbers[key] = number
			groups = append(groups, newGroup(values, len(sums)))
		}
		groups[number].add(row, sums)
	}
	return groups
}

func newGroup(keys []int, sums int) *group {
	return &group{keys: keys, sums: slices.Repeat([]int{api.Null}, sums)}
}

func (g *group) row() Row {
	return slices.Concat(g.keys, []int{g.count}, g.sums)
}

func (g *group) add(row Row, sums []int) {
	g.count++
	for i, column := range sums {
		g.sums[i] = addValue(g.sums[i], row[column])
	}
}

// addValue leaves a sum Null until there is a value that is not.
func addValue(sum, value int) int {
	switch {
	case value == api.Null:
		return sum
	case sum == api.Null:
		return value
	}
	return sum + value
}
