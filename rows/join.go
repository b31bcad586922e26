package rows

import (
	"slices"

	"scout/api"
)

// Loop hands out, for each row of left, for each row of right, both together.
func Loop(left, right Rows) Rows {
	return func(yield func(Row) bool) {
		// Gathered, so that what is below right is done once, not for each row of left.
		inner := Gather(right)
		for outer := range left {
			if !pair(outer, inner, yield) {
				return
			}
		}
	}
}

// Hash hands out those rows of a Loop in which the values of both key places
// are equal; Null is equal to nothing.
func Hash(left, right Rows, leftKey, rightKey int) Rows {
	return func(yield func(Row) bool) {
		inner := map[int][]Row{}
		for row := range right {
			inner[row[rightKey]] = append(inner[row[rightKey]], row)
		}
		delete(inner, api.Null)
		for outer := range left {
			if !pair(outer, inner[outer[leftKey]], yield) {
				return
			}
		}
	}
}

// Merge hands out what Hash does, out of rows that are sorted by their keys.
func Merge(left, right Rows, leftKey, rightKey int) Rows {
	return func(yield func(Row) bool) {
		inner := Gather(right)
		for outer := range left {
			key := outer[leftKey]
			if key == api.Null {
				continue
			}
			// What is less than this key is less than all that come behind it too.
			inner = behindLess(inner, rightKey, key)
			if !pair(outer, startOf(inner, rightKey, key), yield) {
				return
			}
		}
	}
}

// behindLess is the rows from the first on whose value is not less.
func behindLess(list []Row, place, value int) []Row {
	for len(list) > 0 && compareValues(list[0][place], value) < 0 {
		list = list[1:]
	}
	return list
}

// startOf is the rows at the start that have this value.
func startOf(list []Row, place, value int) []Row {
	end := 0
	for end < len(list) && list[end][place] == value {
		end++
	}
	return list[:end]
}

// pair hands out a row together with each of the others, and tells whether
// more is wanted.
func pair(outer Row, inner []Row, yield func(Row) bool) bool {
	for _, row := range inner {
		if !yield(slices.Concat(outer, row)) {
			return false
		}
	}
	return true
}
