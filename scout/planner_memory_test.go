package scout_test

import (
	"math/rand"
	"reflect"
	"slices"
	"testing"

	"scout/api"
	"scout/scout"
)

// spoil writes into all that was handed in.
func (a arguments) spoil() {
	for _, list := range [][]int{a.q.From, a.q.Keys, a.q.Sums, a.q.Select, a.q.Order} {
		scribble([][]int{list})
	}
	for _, clause := range a.q.Where {
		clear(clause.Alts[:cap(clause.Alts)])
	}
	clear(a.q.Where[:cap(a.q.Where)])
	clear(a.cat[:cap(a.cat)])
}

// spoilPlan writes into all lists of a plan, and behind them.
func spoilPlan(plan []api.Node) {
	for _, n := range plan {
		scribble([][]int{n.Clauses, n.Cols})
	}
	plan = plan[:cap(plan)]
	for i := range plan {
		plan[i] = api.Node{Kind: -mark, Clauses: []int{-mark}}
	}
}

// TestPlannerKeepsNothing: P2. What was handed in to Start may be changed later, and so may picks.
func TestPlannerKeepsNothing(t *testing.T) {
	r := rand.New(rand.NewSource(40))
	for k := range 300 {
		cat, q := soughtCase(r, 1+k%4)
		a := roomyArguments(cat, q, nil, nil)
		before := a.picture()
		p, twin := started(t, a.cat, a.q, 1000), started(t, cat, q, 1000)
		for p.Status() == api.Running {
			picks := roomy([]int{r.Int(), r.Int(), -r.Int()}, mark, mark)
			had := whole(picks)
			p.Run(5, -1, picks)
			if !slices.Equal(had, whole(picks)) {
				t.Fatalf("P2: Run changes the picks %v to %v", had, whole(picks))
			}
			twin.Run(5, -1, had[:3])
			scribble([][]int{picks})
			if p.Best(); k%2 == 0 && !reflect.DeepEqual(before, a.picture()) {
				t.Fatalf("P2: what was handed in is changed: %+v", a)
			}
			if k%2 == 1 {
				a.spoil()
			}
			samePlanners(t, "P2: a planner whose query was changed behind it", p, twin)
		}
	}
}

// TestBestIsNewMemory: P2. Whoever writes into a plan that was told changes nothing else.
func TestBestIsNewMemory(t *testing.T) {
	r := rand.New(rand.NewSource(41))
	for k := range 300 {
		cat, q := soughtCase(r, 1+k%4)
		a := roomyArguments(cat, q, nil, nil)
		before := a.picture()
		p, twin := started(t, a.cat, a.q, 1000), started(t, cat, q, 1000)
		for {
			first, _ := p.Best()
			second, _ := p.Best()
			want, _ := twin.Best()
			spoilPlan(first)
			if !samePlan(second, want) {
				t.Fatalf("P2: two answers of Best share memory: %+v, want %+v", second, want)
			}
			for i := range second {
				spoilPlan(second[i : i+1 : i+1])
				if !samePlan(second[i+1:], want[i+1:]) {
					t.Fatalf("P2: node %d of a plan shares memory with another one", i)
				}
			}
			samePlanners(t, "P2: a planner whose plan was written into", p, twin)
			if p.Status() != api.Running {
				break
			}
			pick := r.Int()
			p.Step(pick)
			twin.Step(pick)
		}
		if !reflect.DeepEqual(before, a.picture()) {
			t.Fatalf("P2: a plan shares memory with what was handed in: %+v", a)
		}
	}
}

// TestListsOfANodeShareNothing: P2. From the last node to the first, and Clauses ahead of Cols.
func TestListsOfANodeShareNothing(t *testing.T) {
	r := rand.New(rand.NewSource(42))
	for k := range 200 {
		cat, q := soughtCase(r, 1+k%4)
		p := ended(t, cat, q, 1000, func(n int) int { return n })
		plan, _ := p.Best()
		want, _ := p.Best()
		for i := len(plan) - 1; i >= 0; i-- {
			scribble([][]int{plan[i].Clauses})
			if !slices.Equal(plan[i].Cols, want[i].Cols) || !samePlan(plan[:i], want[:i]) {
				t.Fatalf("P2: the Clauses of node %d of %+v share memory", i, want)
			}
			scribble([][]int{plan[i].Cols})
			if !samePlan(plan[:i], want[:i]) {
				t.Fatalf("P2: the Cols of node %d of %+v share memory", i, want)
			}
		}
	}
}

// TestAskingChangesNothing: P8. Best, Status, Steps and Save, ever so often.
func TestAskingChangesNothing(t *testing.T) {
	r := rand.New(rand.NewSource(43))
	for k := range 200 {
		cat, q := soughtCase(r, 1+k%4)
		p, twin := started(t, cat, q, 1000), started(t, cat, q, 1000)
		for p.Status() == api.Running {
			for range 3 {
				p.Best()
				p.Status()
				p.Steps()
				p.Save()
			}
			pick := r.Int()
			p.Step(pick)
			twin.Step(pick)
		}
		samePlanners(t, "P8: a planner that was asked, and one that was not", p, twin)
	}
}

// TestPlannersSideBySide: P2. Planners know nothing of each other.
func TestPlannersSideBySide(t *testing.T) {
	r := rand.New(rand.NewSource(44))
	for range 50 {
		var all []*scout.Planner
		var ask []func() *scout.Planner
		for k := range 4 {
			cat, q := soughtCase(r, 1+k)
			all = append(all, started(t, cat, q, 1000))
			ask = append(ask, func() *scout.Planner { return started(t, cat, q, 1000) })
		}
		picks := make([][]int, len(all))
		for range 100 {
			k := r.Intn(len(all))
			pick := r.Int()
			all[k].Step(pick)
			picks[k] = append(picks[k], pick)
		}
		for k, p := range all {
			alone := ask[k]()
			for _, pick := range picks[k] {
				alone.Step(pick)
			}
			samePlanners(t, "P2: a planner beside others, and one alone", p, alone)
		}
	}
}
