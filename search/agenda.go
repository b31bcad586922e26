package search

import (
	"cmp"
	"slices"

	"scout/api"
	"scout/query"
)

// task is two sets of sources that are to be laid together; with nothing to
// the right, a source that is to be scanned.
type task struct {
	left, right query.Set
}

// agenda is the tasks that may be done next, none of them twice, in an order
// that does not hang on how they came there.
type agenda []task

// ahead tells which of two tasks stands first: a Scan, for all plans have need
// of it; then that of more sources, so that by the pick 0 there soon is a
// whole plan.
func ahead(a, b task) int {
	return cmp.Or(
		cmp.Compare(b.rank(), a.rank()),
		cmp.Compare(a.left, b.left),
		cmp.Compare(a.right, b.right),
	)
}

func (t task) isScan() bool { return t.right == 0 }

func (t task) rank() int {
	if t.isScan() {
		return api.MaxFrom + 1
	}
	return query.Union(t.left, t.right).Count()
}

func (a *agenda) add(tasks ...task) {
	for _, t := range tasks {
		if place, there := slices.BinarySearchFunc(*a, t, ahead); !there {
			*a = slices.Insert(*a, place, t)
		}
	}
}

// place tells the place of the picked task; any number picks one.
func (a agenda) place(pick int) int {
	count := len(a)
	return (pick%count + count) % count // what is left may be below 0
}

// take takes the task off that stands at a place.
func (a *agenda) take(place int) task {
	t := (*a)[place]
	*a = slices.Delete(*a, place, place+1)
	return t
}
