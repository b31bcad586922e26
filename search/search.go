// Package search looks for cheap plans step by step, in whatever order it is
// told, and has the best one that it has found so far at any time.
package search

import (
	"slices"

	"scout/api"
	"scout/plan"
	"scout/query"
)

// Search lays sets of sources together, two by two, until no set gets any
// cheaper by that. It comes to an end: two sets are laid together anew only if
// one of them got cheaper, and a set gets cheaper only by lesser ones; of five
// sources that makes less than 4000 steps, whatever the picks.
type Search struct {
	facts  query.Facts
	groups []group // by the set of their sources; all but the set of all
	agenda agenda
	cut    bool // there is no room for all pieces that may be of use
	best   *plan.Tree
	picks  []int // of each step that was done the place on the agenda
	status int
}

// Begin begins to look for plans, with room for so many pieces of each set of
// sources.
func Begin(f query.Facts, room int) *Search {
	s := &Search{facts: f, best: plainest(f), status: api.Running}
	for number := range int(f.Sources) {
		orders := usefulOrders(f, query.Set(number))
		s.cut = s.cut || len(orders) > room
		s.groups = append(s.groups, newGroup(orders[:min(room, len(orders))]...))
	}
	for source := range f.Sources.Rising {
		s.agenda.add(task{left: query.SetOf(source)})
	}
	return s
}

// Status tells how the search stands.
func (s *Search) Status() int { return s.status }

// Steps tells how many steps were done.
func (s *Search) Steps() int { return len(s.picks) }

// Picks lists picks by which another search would do the same steps.
func (s *Search) Picks() []int { return slices.Clone(s.picks) }

// Best tells the best plan that was found so far, and its cost.
func (s *Search) Best() ([]api.Node, uint64) { return s.best.Nodes(), s.best.Cost }

// Step does one step, if there still is one to do, and tells the status.
func (s *Search) Step(pick int) int {
	if s.status == api.Running {
		s.step(nil, pick) // no channel: nobody can cancel it
	}
	return s.status
}

// Run does so many steps, unless its tick comes ahead of one of them, and
// tells the status.
func (s *Search) Run(steps, tick int, picks []int) int {
	cancel := make(chan struct{})
	for done := 0; done < steps && s.status == api.Running; done++ {
		if done == tick {
			close(cancel)
		}
		s.step(cancel, pickAt(picks, done))
	}
	return s.status
}

// pickAt goes through the picks again and again.
func pickAt(picks []int, done int) int {
	if len(picks) == 0 {
		return 0
	}
	return picks[done%len(picks)]
}

func (s *Search) step(cancel <-chan struct{}, pick int) {
	select {
	case <-cancel:
		s.status = api.Cancelled
	default:
		place := s.agenda.place(pick)
		s.picks = append(s.picks, place)
		s.do(s.agenda.take(place))
		s.settle()
	}
}

// do does a task; what it finds may put more on the agenda.
func (s *Search) do(t task) {
	if t.isScan() {
		s.keep(t.left, scanned(s.facts, t.left.List()[0]))
		return
	}
	left, right := s.groups[t.left], s.groups[t.right]
	s.keep(query.Union(t.left, t.right), joins(s.facts, left, right)...)
}

// keep takes what was found of a set of sources; if a piece of it got cheaper
// by that, the set is to be laid together with all others anew.
func (s *Search) keep(sources query.Set, found ...*plan.Tree) {
	switch {
	case sources == s.facts.Sources:
		for _, t := range found {
			s.best = cheapest(s.best, endings(s.facts, t)...)
		}
	case s.groups[sources].improve(s.facts, found...):
		s.reopen(sources)
	}
}

func (s *Search) reopen(sources query.Set) {
	for number, g := range s.groups {
		if other := query.Set(number); g.anyPiece() != nil && !other.Meets(sources) {
			s.agenda.add(task{left: sources, right: other}, task{left: other, right: sources})
		}
	}
}

func (s *Search) settle() {
	switch {
	case len(s.agenda) > 0:
		return
	case s.cut:
		s.status = api.Truncated
	default:
		s.status = api.Done
	}
}
