package query

import "scout/api"

// truth is what a condition or a clause is for a row. Its values rise, so
// that a clause is the greatest of its conditions.
type truth int

const (
	isFalse truth = iota
	isUnknown
	isTrue
)

// Holds tells whether all the clauses are true for a row of all columns.
func Holds(where []api.Clause, row []int) bool {
	for _, clause := range where {
		if clauseTruth(clause, row) != isTrue {
			return false
		}
	}
	return true
}

func clauseTruth(clause api.Clause, row []int) truth {
	greatest := isFalse
	for _, c := range clause.Alts {
		greatest = max(greatest, condTruth(c, row))
	}
	return greatest
}

func condTruth(c api.Cond, row []int) truth {
	plain := plainTruth(c, row)
	if c.Not {
		return opposite(plain)
	}
	return plain
}

func opposite(t truth) truth {
	switch t {
	case isTrue:
		return isFalse
	case isFalse:
		return isTrue
	}
	return isUnknown
}

// plainTruth leaves Not aside.
func plainTruth(c api.Cond, row []int) truth {
	left := row[c.Left]
	if c.Op == api.Nil {
		return truthOf(left == api.Null)
	}
	right := c.Right
	if !c.Const {
		right = row[c.Right]
	}
	switch {
	case left == api.Null || right == api.Null:
		return isUnknown
	case c.Op == api.Less:
		return truthOf(left < right)
	}
	return truthOf(left == right)
}

func truthOf(b bool) truth {
	if b {
		return isTrue
	}
	return isFalse
}
