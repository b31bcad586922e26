package plan

import "scout/api"

// shape is which of a node's fields a kind has use for.
type shape struct {
	inputs  int // 1: L; 2: L and R
	source  bool
	clauses bool
	key     bool
	cols    bool
}

var shapes = [...]shape{
	api.Scan:    {source: true},
	api.Filter:  {inputs: 1, clauses: true},
	api.Loop:    {inputs: 2, clauses: true},
	api.Hash:    {inputs: 2, clauses: true, key: true},
	api.Merge:   {inputs: 2, clauses: true, key: true},
	api.Sort:    {inputs: 1, cols: true},
	api.Group:   {inputs: 1},
	api.Stream:  {inputs: 1},
	api.Project: {inputs: 1},
	api.Arrange: {inputs: 1},
}

// isPlan tells whether nodes are a plan at all: each of some kind, with what
// that kind has, and each but the last one the input of just one.
func isPlan(nodes []api.Node) bool {
	if len(nodes) < 1 || len(nodes) > api.MaxNodes {
		return false
	}
	users := make([]int, len(nodes))
	for i, n := range nodes {
		if n.Kind < api.Scan || n.Kind > api.Arrange || !hasNoMore(n, shapes[n.Kind]) {
			return false
		}
		for _, input := range inputsOf(n) {
			if input < 0 || input >= i {
				return false
			}
			users[input]++
		}
	}
	for _, count := range users[:len(nodes)-1] {
		if count != 1 {
			return false
		}
	}
	return true
}

func hasNoMore(n api.Node, s shape) bool {
	switch {
	case s.inputs < 1 && n.L != 0, s.inputs < 2 && n.R != 0:
		return false
	case !s.source && n.Source != 0, !s.key && n.Key != 0:
		return false
	case !s.clauses && len(n.Clauses) > 0, !s.cols && len(n.Cols) > 0:
		return false
	}
	return true
}

// inputsOf lists the nodes from which a node's rows come at once.
func inputsOf(n api.Node) []int {
	return []int{n.L, n.R}[:shapes[n.Kind].inputs]
}
