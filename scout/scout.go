// Package scout: plans for queries, better and better the longer it looks: see DOC.md.
package scout

import (
	"slices"

	"scout/api"
	"scout/exec"
	"scout/journal"
	"scout/plan"
	"scout/query"
	"scout/rows"
	"scout/search"
)

// Planner looks for plans. What it was started with is kept for Save.
type Planner struct {
	cat    []api.Table
	query  api.Query
	cap    int
	search *search.Search
}

// Check tells whether a query is one (P3).
func Check(cat []api.Table, q api.Query) api.Errno { return query.Check(cat, q) }

// Eval answers a query in the plainest way (P4).
func Eval(cat []api.Table, q api.Query, db [][][]int) ([][]int, api.Errno) {
	if e := query.Check(cat, q); e != api.OK {
		return nil, e
	}
	if e := query.CheckData(cat, q, db); e != api.OK {
		return nil, e
	}
	return rows.Gather(answer(q, db)), api.OK
}

// Fair tells whether a plan is fair (P5).
func Fair(cat []api.Table, q api.Query, plan []api.Node) api.Errno {
	_, _, e := look(cat, q, plan)
	return e
}

// Exec carries out a plan (P5).
func Exec(cat []api.Table, q api.Query, plan []api.Node, db [][][]int) ([][]int, api.Errno) {
	facts, parts, e := look(cat, q, plan)
	if e != api.OK {
		return nil, e
	}
	if e := query.CheckData(cat, q, db); e != api.OK {
		return nil, e
	}
	return rows.Gather(exec.Rows(facts, plan, parts, db)), api.OK
}

// Cost tells what a plan costs (P6).
func Cost(cat []api.Table, q api.Query, plan []api.Node) (uint64, api.Errno) {
	_, parts, e := look(cat, q, plan)
	if e != api.OK {
		return 0, e
	}
	return parts[len(parts)-1].Cost, api.OK
}

// look checks a plan, and tells what is known of its query and of its nodes.
func look(cat []api.Table, q api.Query, nodes []api.Node) (query.Facts, []plan.Part, api.Errno) {
	if e := query.Check(cat, q); e != api.OK {
		return query.Facts{}, nil, e
	}
	facts := query.FactsOf(cat, q)
	parts, fair := plan.Look(facts, nodes)
	if !fair {
		return query.Facts{}, nil, api.ErrPlan
	}
	return facts, parts, api.OK
}

// Start begins to look for plans (P7).
func Start(cat []api.Table, q api.Query, cap int) (*Planner, api.Errno) {
	if e := query.Check(cat, q); e != api.OK {
		return nil, e
	}
	if cap < 1 || cap > api.MaxCap {
		return nil, api.ErrCap
	}
	p := &Planner{cat: slices.Clone(cat), query: query.Copied(q), cap: cap}
	p.search = search.Begin(query.FactsOf(p.cat, p.query), cap)
	return p, api.OK
}

// Step does one step (P9).
func (p *Planner) Step(pick int) int { return p.search.Step(pick) }

// Run does steps (P10).
func (p *Planner) Run(steps int, tick int, picks []int) int { return p.search.Run(steps, tick, picks) }

// Status tells how the planner stands (P8).
func (p *Planner) Status() int { return p.search.Status() }

// Steps tells how many steps were done (P8).
func (p *Planner) Steps() int { return p.search.Steps() }

// Best tells the best plan that was found so far, and its cost (P8).
func (p *Planner) Best() ([]api.Node, uint64) { return p.search.Best() }

// Save tells a text out of which Load makes such a planner (P11).
func (p *Planner) Save() string {
	return journal.Journal{
		Catalog: p.cat,
		Query:   p.query,
		Cap:     p.cap,
		Picks:   p.search.Picks(),
		Status:  p.search.Status(),
	}.Text()
}

// Load makes a planner out of what Save told (P11). Any other text is refused:
// a planner that came of it would not tell it again.
func Load(saved string) (*Planner, api.Errno) {
	p, e := follow(journal.Read(saved))
	if e != api.OK || p.Save() != saved {
		return nil, api.ErrSaved
	}
	return p, api.OK
}

// follow goes the way of a journal anew, as far as there is one.
func follow(j journal.Journal) (*Planner, api.Errno) {
	p, e := Start(j.Catalog, j.Query, j.Cap)
	if e != api.OK {
		return nil, e
	}
	p.Run(len(j.Picks), -1, j.Picks)
	if j.Status == api.Cancelled {
		p.Run(1, 0, nil)
	}
	return p, api.OK
}
