package plan

import (
	"slices"

	"scout/api"
	"scout/query"
)

// Tree is a node on all that is below it. Trees are never changed, so that
// many of them may stand on the same one.
type Tree struct {
	Part
	node  api.Node
	below []*Tree
}

// Grow is the tree of a node that fits to the trees from which its rows come.
// The node's own L and R are not looked at.
func Grow(f query.Facts, n api.Node, below ...*Tree) *Tree {
	var inputs []Part
	for _, t := range below {
		inputs = append(inputs, t.Part)
	}
	return &Tree{Part: partOf(f, n, inputs), node: n, below: slices.Clone(below)}
}

// Nodes lists the tree as a plan, in memory of its own.
func (t *Tree) Nodes() []api.Node {
	var inputs [][]api.Node
	for _, b := range t.below {
		inputs = append(inputs, b.Nodes())
	}
	return laid(t.node, inputs...)
}

// laid is the list of the inputs' nodes, one input behind the other, with the
// node that takes what they end in behind them all.
func laid(n api.Node, inputs ...[]api.Node) []api.Node {
	var nodes []api.Node
	var ends [2]int
	for i, list := range inputs {
		nodes = append(nodes, moved(list, len(nodes))...)
		ends[i] = len(nodes) - 1
	}
	n.L, n.R = ends[0], ends[1]
	n.Clauses, n.Cols = slices.Clone(n.Clauses), slices.Clone(n.Cols)
	return append(nodes, n)
}

// moved is the same nodes for a list in which so many stand ahead of them.
func moved(nodes []api.Node, ahead int) []api.Node {
	later := slices.Clone(nodes)
	for i := range later {
		inputs := shapes[later[i].Kind].inputs
		if inputs > 0 {
			later[i].L += ahead
		}
		if inputs > 1 {
			later[i].R += ahead
		}
	}
	return later
}
