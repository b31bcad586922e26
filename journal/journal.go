// Package journal tells as a text how a planner came about, and reads such
// texts.
package journal

import (
	"slices"
	"strconv"
	"strings"

	"scout/api"
)

// title begins each text, so that no mere list of numbers is one.
const title = "scout"

// Journal is all that a planner hangs on: what it was started with, and what
// was done since.
type Journal struct {
	Catalog []api.Table
	Query   api.Query
	Cap     int
	Picks   []int // one for each step that was done
	Status  int
}

// Text tells a journal: the title and numbers, each list behind its length.
func (j Journal) Text() string {
	words := []string{title}
	for _, number := range j.numbers() {
		words = append(words, strconv.Itoa(number))
	}
	return strings.Join(words, " ")
}

func (j Journal) numbers() []int {
	return slices.Concat(
		listed(tableNumbers, j.Catalog...),
		queryNumbers(j.Query),
		[]int{j.Cap},
		counted(j.Picks...),
		[]int{j.Status},
	)
}

func queryNumbers(q api.Query) []int {
	return slices.Concat(
		counted(q.From...),
		listed(clauseNumbers, q.Where...),
		[]int{flag(q.Group)},
		counted(q.Keys...),
		counted(q.Sums...),
		counted(q.Select...),
		counted(q.Order...),
	)
}

// tableNumbers leaves out the Kinds of columns that there are not, for nobody
// looks at them.
func tableNumbers(t api.Table) []int {
	return slices.Concat([]int{t.Rows}, counted(t.Kinds[:t.Cols]...))
}

func clauseNumbers(c api.Clause) []int { return listed(condNumbers, c.Alts...) }

func condNumbers(c api.Cond) []int {
	return []int{flag(c.Not), c.Op, c.Left, flag(c.Const), c.Right}
}

// counted is the numbers behind their count.
func counted(numbers ...int) []int {
	return slices.Concat([]int{len(numbers)}, numbers)
}

// listed is the numbers of all things behind the count of the things.
func listed[T any](numbers func(T) []int, things ...T) []int {
	list := []int{len(things)}
	for _, thing := range things {
		list = append(list, numbers(thing)...)
	}
	return list
}

func flag(on bool) int {
	if on {
		return 1
	}
	return 0
}
