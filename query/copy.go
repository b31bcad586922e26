package query

import (
	"slices"

	"scout/api"
)

// Copied is the same query in memory of its own.
func Copied(q api.Query) api.Query {
	where := slices.Clone(q.Where)
	for i, clause := range where {
		where[i].Alts = slices.Clone(clause.Alts)
	}
	return api.Query{
		From:   slices.Clone(q.From),
		Where:  where,
		Group:  q.Group,
		Keys:   slices.Clone(q.Keys),
		Sums:   slices.Clone(q.Sums),
		Select: slices.Clone(q.Select),
		Order:  slices.Clone(q.Order),
	}
}
