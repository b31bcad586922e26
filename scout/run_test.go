package scout_test

import (
	"math"
	"math/rand"
	"slices"
	"testing"

	"scout/api"
	"scout/scout"
)

// samePlanners: both stand alike in all that can be asked.
func samePlanners(t *testing.T, what string, a, b *scout.Planner) {
	t.Helper()
	x, m := a.Best()
	y, n := b.Best()
	if a.Status() != b.Status() || a.Steps() != b.Steps() || m != n || !samePlan(x, y) || a.Save() != b.Save() {
		t.Fatalf("%s: status %d, %d steps, %d, %+v; the other one: %d, %d, %d, %+v", what, a.Status(), a.Steps(), m, x, b.Status(), b.Steps(), n, y)
	}
}

// runBySteps: what a run does, by steps alone; it tells whether the run is cancelled.
func runBySteps(p *scout.Planner, steps, tick int, picks []int) bool {
	for done := 0; done < steps && p.Status() == api.Running; done++ {
		if tick == done {
			return true
		}
		pick := 0
		if len(picks) > 0 {
			pick = picks[done%len(picks)]
		}
		p.Step(pick)
	}
	return false
}

// TestRunAgainstSteps: P10. Runs one behind the other, until the end or until one is cancelled.
func TestRunAgainstSteps(t *testing.T) {
	r := rand.New(rand.NewSource(30))
	seen := map[int]int{}
	for k := range 600 {
		cat, q := soughtCase(r, 1+k%4)
		p, twin := started(t, cat, q, 1000), started(t, cat, q, 1000)
		for p.Status() == api.Running {
			steps, tick := r.Intn(12)-1, r.Intn(60)-10
			picks := randomList(r, r.Intn(4), anyNumber)
			got := p.Run(steps, tick, picks)
			if got != p.Status() {
				t.Fatalf("P10: Run(%d, %d, %v) tells %d, but the status is %d", steps, tick, picks, got, p.Status())
			}
			if !runBySteps(twin, steps, tick, picks) {
				samePlanners(t, "P10: a run and its steps", p, twin)
				continue
			}
			x, m := p.Best()
			y, n := twin.Best()
			if got != api.Cancelled || p.Steps() != twin.Steps() || m != n || !samePlan(x, y) {
				t.Fatalf("P10: Run(%d, %d, %v) is cancelled: %d, %d steps, cost %d, want %d, %d, %d", steps, tick, picks, got, p.Steps(), m, api.Cancelled, twin.Steps(), n)
			}
		}
		seen[p.Status()]++
		stays(t, p, p.Status())
	}
	if seen[api.Done] < 50 || seen[api.Cancelled] < 50 {
		t.Errorf("P10: the ends of the runs: %v: the cases tell too little", seen)
	}
}

// TestTicks: P10. Every tick against every number of steps.
func TestTicks(t *testing.T) {
	for _, q := range []api.Query{exampleQuery(), {From: []int{0}, Select: []int{0}}, {From: []int{0, 1, 0}, Group: true}} {
		all := ended(t, exampleCatalog(), q, 1000, func(int) int { return 0 }).Steps()
		numbers := []int{math.MinInt, -1, 0, 1, 2, all - 1, all, all + 1, math.MaxInt}
		for _, steps := range numbers {
			for _, tick := range numbers {
				done, status := max(0, min(steps, all)), api.Running
				if done == all {
					status = api.Done
				}
				if tick >= 0 && tick < done {
					done, status = tick, api.Cancelled
				}
				p := started(t, exampleCatalog(), q, 1000)
				if s := p.Run(steps, tick, nil); s != status || p.Status() != status || p.Steps() != done {
					t.Errorf("P10: Run(%d, %d) of %d steps: %d, status %d, %d steps, want %d, %d", steps, tick, all, s, p.Status(), p.Steps(), status, done)
				}
				if status != api.Running {
					stays(t, p, status)
				}
			}
		}
	}
}

// TestTickOfEachRun: P10. A tick counts the steps of its own run, and an earlier run's never comes later.
func TestTickOfEachRun(t *testing.T) {
	p := started(t, exampleCatalog(), exampleQuery(), 1000)
	for k := range 3 {
		if s := p.Run(1, 1, nil); s != api.Running || p.Steps() != k+1 {
			t.Fatalf("P10: run %d: %d, %d steps", k, s, p.Steps())
		}
	}
	if s := p.Step(0); s == api.Cancelled || p.Steps() != 4 {
		t.Fatalf("P10: a step behind runs with ticks: %d, %d steps", s, p.Steps())
	}
	p = started(t, exampleCatalog(), exampleQuery(), 1000)
	if s := p.Run(0, 0, nil); s != api.Running {
		t.Errorf("P10: a run of no steps is cancelled: %d", s)
	}
	if s := p.Run(2, 1, nil); s != api.Cancelled || p.Steps() != 1 {
		t.Errorf("P10: Run(2, 1): %d, %d steps", s, p.Steps())
	}
}

// TestPicksInTurn: P10. Picks are gone through from the first on, in each run anew.
func TestPicksInTurn(t *testing.T) {
	r := rand.New(rand.NewSource(31))
	for range 100 {
		cat, q := soughtCase(r, 3)
		picks := randomList(r, 1+r.Intn(5), func(r *rand.Rand) int { return r.Intn(50) })
		long := slices.Concat(picks, picks, picks)
		a, b, c := started(t, cat, q, 1000), started(t, cat, q, 1000), started(t, cat, q, 1000)
		a.Run(len(long), -1, picks)
		b.Run(len(long), -1, long)
		for range 3 {
			c.Run(len(picks), -1, picks)
		}
		samePlanners(t, "P10: picks from the first on again", a, b)
		samePlanners(t, "P10: picks in each run from the first on", a, c)
		d, e := started(t, cat, q, 1000), started(t, cat, q, 1000)
		d.Run(7, -1, nil)
		e.Run(7, -1, []int{0})
		samePlanners(t, "P10: no picks", d, e)
	}
}
