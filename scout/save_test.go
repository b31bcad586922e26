package scout_test

import (
	"math/rand"
	"slices"
	"testing"

	"scout/api"
	"scout/scout"
)

// paused: the planner that comes of what another one saves.
func paused(t *testing.T, p *scout.Planner) *scout.Planner {
	t.Helper()
	text := p.Save()
	o, e := scout.Load(text)
	if o == nil || e != api.OK {
		t.Fatalf("P11: Load of what was saved: %v, %d: %q", o, e, text)
	}
	samePlanners(t, "P11: a planner and what was loaded of it", p, o)
	if p.Save() != text {
		t.Fatalf("P8: Save and Load change the planner")
	}
	return o
}

// order: something to be done with a planner; it tells what it is answered.
type order func(p *scout.Planner) int

func randomOrder(r *rand.Rand) order {
	pick, steps, tick := anyNumber(r), r.Intn(30)-1, r.Intn(80)-20
	picks := randomList(r, r.Intn(4), anyNumber)
	if r.Intn(2) == 0 {
		return func(p *scout.Planner) int { return p.Step(pick) }
	}
	return func(p *scout.Planner) int { return p.Run(steps, tick, picks) }
}

// TestLoadGoesOn: P11. Whatever is called, what was loaded answers as what was saved.
func TestLoadGoesOn(t *testing.T) {
	r := rand.New(rand.NewSource(50))
	seen := map[int]int{}
	for k := range 400 {
		cat, q := soughtCase(r, 1+k%5)
		p := started(t, cat, q, []int{1, 2, 3, 9, 10, 999, 1000}[r.Intn(7)])
		others := []*scout.Planner{paused(t, p)}
		for p.Status() == api.Running {
			do := randomOrder(r)
			want := do(p)
			for _, o := range others {
				if got := do(o); got != want {
					t.Fatalf("P11: %+v, %+v: behind %d steps what was loaded answers %d, what was saved %d", cat, q, p.Steps(), got, want)
				}
				samePlanners(t, "P11: what was saved and what was loaded go on", p, o)
			}
			if r.Intn(3) == 0 && len(others) < 4 {
				others = append(others, paused(t, p))
			}
			if r.Intn(3) == 0 {
				others[r.Intn(len(others))] = paused(t, others[r.Intn(len(others))])
			}
		}
		seen[p.Status()]++
		for _, o := range append(others, paused(t, p)) {
			stays(t, o, p.Status())
			samePlanners(t, "P11: what was saved and what was loaded stay", p, o)
		}
	}
	if seen[api.Done] < 50 || seen[api.Truncated] < 20 || seen[api.Cancelled] < 50 {
		t.Errorf("P11: the ends: %v: the cases tell too little", seen)
	}
}

// TestSaveAtEachStep: P11. To the end from each step, against a planner that was never saved.
func TestSaveAtEachStep(t *testing.T) {
	r := rand.New(rand.NewSource(51))
	for k := range 60 {
		cat, q := soughtCase(r, 1+k%3)
		picks := randomList(r, 7, anyNumber)
		all := started(t, cat, q, 1000)
		all.Run(api.MaxSteps, -1, picks)
		for n := 0; n <= all.Steps(); n++ {
			p, twin := started(t, cat, q, 1000), started(t, cat, q, 1000)
			p.Run(n, -1, picks)
			p = paused(t, p)
			twin.Run(n, -1, picks)
			samePlanners(t, "P11: a planner that was loaded, and one that was not saved", p, twin)
			rest := slices.Concat(picks[n%7:], picks[:n%7])
			p.Run(api.MaxSteps, -1, rest)
			samePlanners(t, "P11: a planner that was loaded on its way, and one that was not", p, all)
		}
	}
}

// TestSaveCancelled: P10, P11. A planner that was cancelled stays so, and one whose tick has not come knows of none.
func TestSaveCancelled(t *testing.T) {
	all := ended(t, exampleCatalog(), exampleQuery(), 1000, func(int) int { return 0 }).Steps()
	for tick := range all + 2 {
		p := started(t, exampleCatalog(), exampleQuery(), 1000)
		status := p.Run(api.MaxSteps, tick, nil)
		if want := api.Cancelled; tick < all && status != want {
			t.Fatalf("P10: the tick %d: %d", tick, status)
		}
		stays(t, paused(t, p), status)
		p = started(t, exampleCatalog(), exampleQuery(), 1000)
		p.Run(tick, tick, nil)
		if s := paused(t, p).Run(api.MaxSteps, -1, nil); s != api.Done {
			t.Errorf("P11: a planner that was saved when its tick %d had not come ends with %d", tick, s)
		}
	}
}

// TestSaveOfGreatQueries: P11. All that a query may have, up to its bounds.
func TestSaveOfGreatQueries(t *testing.T) {
	full := api.Table{Cols: 4, Rows: 1000000, Kinds: [4]int{1000000, 1, 1000000, 7}}
	cat := slices.Repeat([]api.Table{full}, 8)
	clause := anyOf(not(equals(19, -1000)), lessThan(0, 1000), isNil(7))
	chosen := api.Query{
		From:   []int{7, 0, 7, 3, 1},
		Where:  where(one(eq(0, 4)), one(eq(5, 8)), one(eq(9, 12)), one(eq(13, 16)), one(eq(17, 1)), clause, clause, one(less(3, 15))),
		Select: []int{19, 18, 0, 0, 4, 7, 8, 9},
		Order:  []int{7, 0, 3, 1},
	}
	grouped := chosen
	grouped.Group, grouped.Select, grouped.Keys, grouped.Sums = true, nil, []int{19, 0, 7, 3}, []int{1, 1, 2, 19}
	for _, q := range []api.Query{chosen, grouped, {From: []int{0}, Group: true}} {
		for _, most := range []int{1, 1000} {
			p := started(t, cat, q, most)
			for paused(t, p); p.Status() == api.Running; paused(t, p) {
				p.Run(97, -1, []int{0, -1, 2})
			}
		}
	}
}

// TestSaveOfIdleKinds: P11. Kinds of columns that there are not may be anything.
func TestSaveOfIdleKinds(t *testing.T) {
	idle := exampleCatalog()
	idle[0].Kinds = [4]int{100, 10, -1, 1 << 40}
	idle[1].Kinds = [4]int{10, 0, 1000001, -5}
	p, twin := started(t, idle, exampleQuery(), 1000), started(t, exampleCatalog(), exampleQuery(), 1000)
	for p.Status() == api.Running {
		samePlanners(t, "P11: Kinds of columns that there are not", paused(t, p), twin)
		p.Step(1)
		twin.Step(1)
	}
}

// TestSaveKeepsNothing: P2. What was handed in to Start may be changed ahead of Save.
func TestSaveKeepsNothing(t *testing.T) {
	r := rand.New(rand.NewSource(52))
	for k := range 200 {
		cat, q := soughtCase(r, 1+k%4)
		a := roomyArguments(cat, q, nil, nil)
		p, twin := started(t, a.cat, a.q, 1000), started(t, cat, q, 1000)
		a.spoil()
		picks := []int{r.Int(), r.Int()}
		for _, one := range []*scout.Planner{p, twin} {
			one.Run(k%9, -1, picks)
		}
		scribble([][]int{picks})
		samePlanners(t, "P2: a planner whose query was changed behind it", paused(t, p), twin)
		before := p.Save()
		plan, _ := p.Best()
		spoilPlan(plan)
		if p.Save() != before {
			t.Fatalf("P2: who writes into a plan changes what is saved")
		}
	}
}

// TestLoadedShareNothing: P2. Planners of one text know nothing of each other.
func TestLoadedShareNothing(t *testing.T) {
	r := rand.New(rand.NewSource(53))
	for k := range 100 {
		cat, q := soughtCase(r, 2+k%3)
		p := started(t, cat, q, 1000)
		p.Run(k%20, -1, []int{r.Int(), r.Int()})
		text := p.Save()
		a, b := paused(t, p), paused(t, p)
		a.Run(api.MaxSteps, -1, nil)
		plan, _ := a.Best()
		spoilPlan(plan)
		samePlanners(t, "P2: planners of one text", p, b)
		if p.Save() != text || b.Save() != text {
			t.Fatalf("P2: a planner of one text changes another one")
		}
	}
}

// TestPauses: P12. Whatever budgets, picks, ticks and pauses there are.
func TestPauses(t *testing.T) {
	r := rand.New(rand.NewSource(54))
	several, better, seen := 0, 0, map[int]int{}
	for range 1500 {
		cat, q, db, _ := plannedCase(r)
		answer := oracle(q, db)
		p := started(t, cat, q, 1+r.Intn(1000))
		_, was := p.Best()
		for {
			plan, cost := p.Best()
			rows, e := scout.Exec(cat, q, plan, db)
			if e != api.OK || !sameAnswer(q, rows, answer) {
				t.Fatalf("P12: %+v, %+v on %v: %+v gives %v, %d, but the answer is %v", cat, q, db, plan, rows, e, answer)
			}
			if cost > was {
				t.Fatalf("P12: %+v, %+v: the plan gets dearer: %d, then %d", cat, q, was, cost)
			}
			if cost < was {
				better++
			}
			if was = cost; p.Status() != api.Running {
				break
			}
			randomOrder(r)(p)
			if r.Intn(2) == 0 {
				p = paused(t, p)
			}
		}
		seen[p.Status()]++
		if len(answer) > 1 {
			several++
		}
	}
	if several < 300 || better < 500 || seen[api.Done] < 300 || seen[api.Cancelled] < 100 {
		t.Errorf("%d answers of several rows, %d better plans, ends %v: the cases tell too little", several, better, seen)
	}
}
