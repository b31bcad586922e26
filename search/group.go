package search

import (
	"slices"

	"scout/plan"
	"scout/query"
)

// group is the cheapest pieces of plans of one set of sources, one for each
// order that may be of use; the first place is for rows in any order.
type group []place

// place keeps the cheapest piece whose order begins with this one.
type place struct {
	order []int
	piece *plan.Tree // nil as long as there is none
}

func newGroup(orders ...[]int) group {
	var g group
	for _, order := range orders {
		g = append(g, place{order: order})
	}
	return g
}

// usefulOrders lists the orders that rows of these sources may be in to some
// use when they are laid together with others: none at all; the order that
// the end has use for; and that of a column for a Merge.
func usefulOrders(f query.Facts, sources query.Set) [][]int {
	orders := [][]int{nil}
	if end := plan.EndOrder(f.Query); sources.Covers(f.SourcesOf(end...)) {
		orders = added(orders, end)
	}
	for _, clause := range f.Query.Where {
		left, right, ok := query.EqualColumns(clause)
		if !ok || sources.Covers(f.SourcesOf(left, right)) {
			continue // it will not be a key any more
		}
		for _, column := range []int{left, right} {
			if sources.Covers(f.SourcesOf(column)) {
				orders = added(orders, []int{column})
			}
		}
	}
	return orders
}

// added is the lists with one more, if it is not among them.
func added(lists [][]int, list []int) [][]int {
	if slices.ContainsFunc(lists, func(l []int) bool { return slices.Equal(l, list) }) {
		return lists
	}
	return append(lists, list)
}

// anyPiece is the cheapest piece of all; nil, if there is none.
func (g group) anyPiece() *plan.Tree { return g[0].piece }

// improve offers trees to all places, sorted ones too, and tells whether a
// piece got cheaper.
func (g group) improve(f query.Facts, trees ...*plan.Tree) bool {
	if !g.offer(trees...) {
		return false
	}
	for _, p := range g[1:] {
		g.offer(sorted(f, g.anyPiece(), p.order))
	}
	return true
}

func (g group) offer(trees ...*plan.Tree) bool {
	better := false
	for _, t := range trees {
		for i, p := range g {
			if plan.Begins(t.Order, p.order) && (p.piece == nil || t.Cost < p.piece.Cost) {
				g[i].piece = t
				better = true
			}
		}
	}
	return better
}

// pieces lists what is kept, a piece that has several places once.
func (g group) pieces() []*plan.Tree {
	var list []*plan.Tree
	for _, p := range g {
		if p.piece != nil && !slices.Contains(list, p.piece) {
			list = append(list, p.piece)
		}
	}
	return list
}

// sortedBy is the cheapest piece that is sorted by a column first of all; nil,
// if none is.
func (g group) sortedBy(column int) *plan.Tree {
	var least *plan.Tree
	for _, t := range g.pieces() {
		if plan.Begins(t.Order, []int{column}) && (least == nil || t.Cost < least.Cost) {
			least = t
		}
	}
	return least
}
