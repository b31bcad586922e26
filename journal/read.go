package journal

import (
	"strconv"
	"strings"

	"scout/api"
)

// reader goes through the words of a text. What is missing, or can't be read,
// counts as 0.
type reader struct {
	rest string
}

// Read reads a journal out of a text, as well as it goes. Whether the text is
// a journal's is not asked here: who wants to know tells the text anew, and
// holds both against each other.
func Read(text string) Journal {
	r := &reader{rest: text}
	r.word() // the title
	return Journal{
		Catalog: list(r, api.MaxTables, r.table),
		Query:   r.query(),
		Cap:     r.number(),
		Picks:   list(r, api.MaxSteps, r.number),
		Status:  r.number(),
	}
}

func (r *reader) query() api.Query {
	return api.Query{
		From:   list(r, api.MaxFrom, r.number),
		Where:  list(r, api.MaxWhere, r.clause),
		Group:  r.flag(),
		Keys:   list(r, api.MaxKeys, r.number),
		Sums:   list(r, api.MaxSums, r.number),
		Select: list(r, api.MaxSelect, r.number),
		Order:  list(r, api.MaxOrder, r.number),
	}
}

func (r *reader) table() api.Table {
	t := api.Table{Rows: r.number()}
	t.Cols = copy(t.Kinds[:], list(r, api.MaxCols, r.number))
	return t
}

func (r *reader) clause() api.Clause { return api.Clause{Alts: list(r, api.MaxAlts, r.cond)} }

func (r *reader) cond() api.Cond {
	return api.Cond{
		Not:   r.flag(),
		Op:    r.number(),
		Left:  r.number(),
		Const: r.flag(),
		Right: r.number(),
	}
}

// list reads a list behind its length, but no more than may be, nor more than
// is there: the length may be any number.
func list[T any](r *reader, most int, next func() T) []T {
	var things []T
	for range min(r.number(), most) {
		if r.rest == "" {
			break
		}
		things = append(things, next())
	}
	return things
}

func (r *reader) flag() bool { return r.number() != 0 }

func (r *reader) number() int {
	number, err := strconv.Atoi(r.word())
	if err != nil {
		return 0
	}
	return number
}

func (r *reader) word() string {
	word, rest, _ := strings.Cut(r.rest, " ")
	r.rest = rest
	return word
}
