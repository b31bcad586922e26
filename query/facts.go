package query

import "scout/api"

// By how much a clause parts, where the catalog has no say in it.
const (
	lessParts  = 3
	nilParts   = 10
	otherParts = 2
)

// Column is what is known of a column of a query.
type Column struct {
	Source int
	Kinds  uint64
}

// Facts is what plans ask of a query and its catalog.
type Facts struct {
	Query    api.Query
	Columns  []Column
	Sources  Set      // all of them
	Clauses  Set      // all of them
	Rows     []uint64 // of each source
	Concerns []Set    // of each clause the sources
	Parts    []uint64 // of each clause the number by which it parts
}

// FactsOf tells the facts of a query that Check has let pass.
func FactsOf(cat []api.Table, q api.Query) Facts {
	f := Facts{Query: q, Sources: firstOf(len(q.From)), Clauses: firstOf(len(q.Where))}
	for source, number := range q.From {
		table := cat[number]
		f.Rows = append(f.Rows, uint64(table.Rows))
		for _, kinds := range table.Kinds[:table.Cols] {
			f.Columns = append(f.Columns, Column{Source: source, Kinds: uint64(kinds)})
		}
	}
	for _, clause := range q.Where {
		f.Concerns = append(f.Concerns, f.concerns(clause))
		f.Parts = append(f.Parts, f.parts(clause))
	}
	return f
}

// ColumnsOf lists the columns of a source.
func (f Facts) ColumnsOf(source int) []int {
	var columns []int
	for number, column := range f.Columns {
		if column.Source == source {
			columns = append(columns, number)
		}
	}
	return columns
}

// SourcesOf is the set of the sources to which the columns belong.
func (f Facts) SourcesOf(columns ...int) Set {
	var sources Set
	for _, column := range columns {
		sources = Union(sources, SetOf(f.Columns[column].Source))
	}
	return sources
}

// Within is the set of the clauses that concern none but these sources.
func (f Facts) Within(sources Set) Set {
	var clauses Set
	for number, concerned := range f.Concerns {
		if sources.Covers(concerned) {
			clauses = Union(clauses, SetOf(number))
		}
	}
	return clauses
}

// Between is the set of the clauses that concern sources of both sets, and no
// others.
func (f Facts) Between(left, right Set) Set {
	return f.Within(Union(left, right)) &^ Union(f.Within(left), f.Within(right))
}

func (f Facts) concerns(clause api.Clause) Set {
	var sources Set
	for _, c := range clause.Alts {
		sources = Union(sources, f.SourcesOf(condColumns(c)...))
	}
	return sources
}

func (f Facts) parts(clause api.Clause) uint64 {
	c := clause.Alts[0]
	if len(clause.Alts) > 1 || c.Not {
		return otherParts
	}
	switch c.Op {
	case api.Less:
		return lessParts
	case api.Nil:
		return nilParts
	}
	most := uint64(0)
	for _, column := range condColumns(c) {
		most = max(most, f.Columns[column].Kinds)
	}
	return most
}

// EqualColumns tells the two columns that a clause wants to be equal and
// nothing else, if it is such a one.
func EqualColumns(clause api.Clause) (left, right int, ok bool) {
	c := clause.Alts[0]
	if len(clause.Alts) > 1 || c.Op != api.Eq || c.Not || c.Const {
		return 0, 0, false
	}
	return c.Left, c.Right, true
}

// condColumns lists the columns that a condition names.
func condColumns(c api.Cond) []int {
	if namesRight(c) {
		return []int{c.Left, c.Right}
	}
	return []int{c.Left}
}

// namesRight: the Right of a Nil is 0, but not the column 0.
func namesRight(c api.Cond) bool {
	return !c.Const && c.Op != api.Nil
}

// Moved is the same clause for rows whose columns stand elsewhere; place tells
// where each column stands.
func Moved(clause api.Clause, place func(column int) int) api.Clause {
	moved := api.Clause{Alts: make([]api.Cond, 0, len(clause.Alts))}
	for _, c := range clause.Alts {
		c.Left = place(c.Left)
		if namesRight(c) {
			c.Right = place(c.Right)
		}
		moved.Alts = append(moved.Alts, c)
	}
	return moved
}
