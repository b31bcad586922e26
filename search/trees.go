package search

import (
	"slices"

	"scout/api"
	"scout/plan"
	"scout/query"
)

// plainest is the plan that there is at once: all sources in a row, then all
// clauses, then the end.
func plainest(f query.Facts) *plan.Tree {
	all := plan.Grow(f, api.Node{Kind: api.Scan})
	for source := 1; source < len(f.Query.From); source++ {
		next := plan.Grow(f, api.Node{Kind: api.Scan, Source: source})
		all = plan.Grow(f, api.Node{Kind: api.Loop}, all, next)
	}
	all = filtered(f, all, f.Clauses)
	kind := api.Project
	if f.Query.Group {
		kind = api.Group
	}
	end := plan.Grow(f, api.Node{Kind: kind}, all)
	if len(f.Query.Order) > 0 {
		end = plan.Grow(f, api.Node{Kind: api.Arrange}, end)
	}
	return end
}

// filtered is the tree with a Filter upon it, if there are clauses for one.
func filtered(f query.Facts, t *plan.Tree, clauses query.Set) *plan.Tree {
	if clauses == 0 {
		return t
	}
	return plan.Grow(f, api.Node{Kind: api.Filter, Clauses: clauses.List()}, t)
}

func sorted(f query.Facts, t *plan.Tree, order []int) *plan.Tree {
	return plan.Grow(f, api.Node{Kind: api.Sort, Cols: order}, t)
}

// scanned is the Scan of a source, with the clauses that concern it alone.
func scanned(f query.Facts, source int) *plan.Tree {
	scan := plan.Grow(f, api.Node{Kind: api.Scan, Source: source})
	return filtered(f, scan, f.Within(scan.Sources))
}

// joins lists the ways to lay the pieces of two groups together.
func joins(f query.Facts, left, right group) []*plan.Tree {
	var lists [][]*plan.Tree
	for _, l := range left.pieces() {
		lists = append(lists, joined(f, l, right))
	}
	return slices.Concat(lists...)
}

// joined lists the ways to lay a piece together with one of a group. The order
// of the right side is lost, so that of its pieces the cheapest will do, but
// for a Merge.
func joined(f query.Facts, l *plan.Tree, right group) []*plan.Tree {
	r := right.anyPiece()
	clauses := f.Between(l.Sources, r.Sources).List()
	list := []*plan.Tree{plan.Grow(f, api.Node{Kind: api.Loop, Clauses: clauses}, l, r)}
	for _, key := range clauses {
		n := api.Node{Kind: api.Hash, Clauses: clauses, Key: key}
		leftKey, rightKey, ok := plan.KeyColumns(f, n, l.Part, r.Part)
		if !ok {
			continue
		}
		list = append(list, plan.Grow(f, n, l, r))
		if mate := right.sortedBy(rightKey); mate != nil && plan.Begins(l.Order, []int{leftKey}) {
			n.Kind = api.Merge
			list = append(list, plan.Grow(f, n, l, mate))
		}
	}
	return list
}

// endings lists the whole plans out of a tree that stands for all sources and
// all clauses.
func endings(f query.Facts, t *plan.Tree) []*plan.Tree {
	list := []*plan.Tree{ended(f, t)}
	if order := plan.EndOrder(f.Query); len(order) > 0 {
		list = append(list, ended(f, sorted(f, t, order)))
	}
	return list
}

// ended is a tree with the end upon it that costs least for its order.
func ended(f query.Facts, t *plan.Tree) *plan.Tree {
	kind := endKind(f.Query, t.Order)
	end := plan.Grow(f, api.Node{Kind: kind}, t)
	if plan.EndsWell(f.Query, kind, t.Order) {
		return end
	}
	return plan.Grow(f, api.Node{Kind: api.Arrange}, end)
}

// endKind: where a Stream may stand, it costs no more than a Group.
func endKind(q api.Query, order []int) int {
	switch {
	case !q.Group:
		return api.Project
	case plan.Begins(order, q.Keys):
		return api.Stream
	}
	return api.Group
}

// cheapest is the tree that costs least; of several such the one named first.
func cheapest(first *plan.Tree, others ...*plan.Tree) *plan.Tree {
	least := first
	for _, t := range others {
		if t.Cost < least.Cost {
			least = t
		}
	}
	return least
}
