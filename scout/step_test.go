package scout_test

import (
	"math"
	"math/rand"
	"testing"

	"scout/api"
	"scout/scout"
)

// pickers: ways to pick, each by its name; n is how many steps were done.
func pickers(r *rand.Rand) map[string]func(n int) int {
	return map[string]func(n int) int{
		"0":            func(n int) int { return 0 },
		"-1":           func(n int) int { return -1 },
		"rising":       func(n int) int { return n },
		"falling":      func(n int) int { return -7 * n },
		"the greatest": func(n int) int { return math.MaxInt - n },
		"the least":    func(n int) int { return math.MinInt + n },
		"by chance":    func(n int) int { return int(r.Uint64()) },
		"one and last": func(n int) int { return -(n % 2) },
	}
}

// ended: a planner that was run to its end.
func ended(t *testing.T, cat []api.Table, q api.Query, most int, pick func(n int) int) *scout.Planner {
	t.Helper()
	p := started(t, cat, q, most)
	for n := 0; p.Step(pick(n)) == api.Running; n++ {
		if n > api.MaxSteps {
			t.Fatalf("P9: %+v, %+v: still running behind %d steps", cat, q, n)
		}
	}
	return p
}

// mustBeDone: where the document says that it ends as Done, by the cap 1000.
func mustBeDone(q api.Query) bool {
	equal := 0
	for _, clause := range q.Where {
		if c := clause.Alts[0]; len(clause.Alts) == 1 && c.Op == api.Eq && !c.Not && !c.Const {
			equal++
		}
	}
	return len(q.From) <= 3 || equal <= 2
}

// leastOf: the best plan of a planner that is Done costs no more than any that
// is well laid; the first plan may be cheaper still.
func leastOf(t *testing.T, cat []api.Table, q api.Query) uint64 {
	_, first := started(t, cat, q, 1000).Best()
	return min(first, leastLaid(cat, q))
}

// TestDoneIsLeast: P9. By whatever picks.
func TestDoneIsLeast(t *testing.T) {
	r := rand.New(rand.NewSource(22))
	kinds := map[int]int{}
	for k := range 750 {
		sources := 1 + k%4
		if k%25 == 0 {
			sources = 5
		}
		cat, q := soughtCase(r, sources)
		least := leastOf(t, cat, q)
		for name, pick := range pickers(r) {
			p := ended(t, cat, q, 1000, pick)
			if s := p.Status(); s != api.Done && (s != api.Truncated || mustBeDone(q)) {
				t.Fatalf("P9: %+v, %+v, picks %s: in the end the status is %d", cat, q, name, s)
			}
			plan, cost := p.Best()
			if p.Status() == api.Done && cost != least {
				t.Fatalf("P9: %+v, %+v, picks %s: the best plan costs %d, want %d: %+v", cat, q, name, cost, least, plan)
			}
			for _, n := range plan {
				kinds[n.Kind]++
			}
		}
	}
	for kind := api.Scan; kind <= api.Arrange; kind++ {
		if kinds[kind] < 100 {
			t.Errorf("only %d nodes of the kind %d in the best plans: the cases tell too little", kinds[kind], kind)
		}
	}
}

// TestSmallCap: P8, P9. With whatever cap the planner comes to an end, and when it is Done, it is so as with the greatest.
func TestSmallCap(t *testing.T) {
	r := rand.New(rand.NewSource(23))
	seen := map[int]int{}
	for k := range 300 {
		cat, q := soughtCase(r, 2+k%3)
		least := leastOf(t, cat, q)
		for _, most := range []int{1, 2, 3, 4, 10, 100, 999} {
			p := ended(t, cat, q, most, func(n int) int { return r.Intn(1000) })
			_, cost := p.Best()
			seen[p.Status()]++
			if p.Status() == api.Done && cost != least || p.Status() == api.Truncated && cost < least {
				t.Fatalf("P9: %+v, %+v, cap %d: status %d, cost %d, least %d", cat, q, most, p.Status(), cost, least)
			}
			if most >= 10 && p.Status() != api.Done {
				t.Fatalf("README: %+v, %+v, cap %d: status %d", cat, q, most, p.Status())
			}
		}
	}
	if seen[api.Done] < 300 || seen[api.Truncated] < 300 || len(seen) > 2 {
		t.Errorf("P9: the ends with small caps: %v", seen)
	}
}

// TestStepByStep: P8, P9. Behind each step there is a fair plan, never a dearer one.
func TestStepByStep(t *testing.T) {
	r := rand.New(rand.NewSource(24))
	better := 0
	for k := range 400 {
		cat, q := soughtCase(r, 1+k%5)
		p := started(t, cat, q, 1+r.Intn(1000))
		_, was := p.Best()
		for n := 1; p.Status() == api.Running; n++ {
			s := p.Step(r.Intn(2000) - 1000)
			plan, cost := p.Best()
			if s != p.Status() || p.Steps() != n || s == api.Cancelled {
				t.Fatalf("P9: %+v, %+v: step %d: %d, status %d, %d steps", cat, q, n, s, p.Status(), p.Steps())
			}
			if cost > was {
				t.Fatalf("P8: %+v, %+v: step %d: the cost rises from %d to %d", cat, q, n, was, cost)
			}
			if cost == was {
				continue
			}
			better++
			if o := (oraclePlan{cat, q, plan}); !o.isFair() || o.cost(len(plan)-1).Uint64() != cost {
				t.Fatalf("P8: step %d: Best tells the cost %d of %+v", n, cost, o)
			}
			was = cost
		}
		stays(t, p, p.Status())
	}
	if better < 600 {
		t.Errorf("only %d steps found a better plan: the cases tell too little", better)
	}
}

// stays: nothing changes any more, whatever is called.
func stays(t *testing.T, p *scout.Planner, status int) {
	t.Helper()
	plan, cost := p.Best()
	steps := p.Steps()
	for _, n := range []int{0, 1, -1, math.MaxInt, math.MinInt} {
		if s := p.Step(n); s != status {
			t.Fatalf("P9: Step(%d) behind the end tells %d, want %d", n, s, status)
		}
		for _, tick := range []int{-1, 0, 1} {
			if s := p.Run(n, tick, []int{n}); s != status {
				t.Fatalf("P10: Run(%d, %d) behind the end tells %d, want %d", n, tick, s, status)
			}
		}
	}
	again, same := p.Best()
	if p.Status() != status || p.Steps() != steps || same != cost || !samePlan(plan, again) {
		t.Fatalf("P9: something changes behind the end: status %d, %d steps, cost %d; was %d, %d, %d", p.Status(), p.Steps(), same, status, steps, cost)
	}
}

// TestExampleSearch: the last rows of the examples.
func TestExampleSearch(t *testing.T) {
	p := started(t, exampleCatalog(), exampleQuery(), 1000)
	if s := p.Run(1000000, -1, nil); s != api.Done {
		t.Errorf("P9: Run of the example: %d", s)
	}
	if plan, cost := p.Best(); cost > 562 || cost != leastLaid(exampleCatalog(), exampleQuery()) {
		t.Errorf("P9: the best plan of the example costs %d: %+v", cost, plan)
	}
}

// TestPicksByWhatIsLeft: P9. Picks with the same remainder, whatever the number of choices, pick the same.
func TestPicksByWhatIsLeft(t *testing.T) {
	const multiple = 2329089562800 // of all numbers up to 30
	r := rand.New(rand.NewSource(25))
	differ := 0
	for k := range 200 {
		cat, q := soughtCase(r, 2+k%2)
		a, b, c := started(t, cat, q, 1000), started(t, cat, q, 1000), started(t, cat, q, 1000)
		for a.Status() == api.Running {
			pick := r.Intn(2000) - 1000
			a.Step(pick)
			b.Step(pick + multiple*(r.Intn(2000001)-1000000))
			c.Step(pick + 1)
			x, m := a.Best()
			y, n := b.Best()
			if !samePlan(x, y) || m != n || a.Status() != b.Status() {
				t.Fatalf("P9: %+v, %+v: step %d by the pick %d: %d, %+v; by one with the same remainders: %d, %+v", cat, q, a.Steps(), pick, m, x, n, y)
			}
			if _, n := c.Best(); m != n {
				differ++
			}
		}
	}
	if differ < 100 {
		t.Errorf("other picks found other plans only %d times: the cases tell too little", differ)
	}
}

// TestBestAnswers: P8, P12. Carrying out the best plan gives the answer, at any time.
func TestBestAnswers(t *testing.T) {
	r := rand.New(rand.NewSource(26))
	several := 0
	for range 1500 {
		cat, q, db, _ := plannedCase(r)
		want := oracle(q, db)
		p := started(t, cat, q, 1000)
		for was := uint64(0); ; {
			plan, cost := p.Best()
			if cost != was {
				rows, e := scout.Exec(cat, q, plan, db)
				if e != api.OK || !sameAnswer(q, rows, want) {
					t.Fatalf("P12: %+v, %+v on %v: %+v gives %v, %d, but the answer is %v", cat, q, db, plan, rows, e, want)
				}
				was = cost
			}
			if p.Status() != api.Running {
				break
			}
			p.Run(1+r.Intn(20), -1, []int{r.Int(), r.Int()})
		}
		if len(want) > 1 {
			several++
		}
	}
	if several < 300 {
		t.Errorf("only %d queries had more than one row: the cases tell too little", several)
	}
}

// TestCapOfNoUse: where nothing is to be sorted for, the least cap does.
func TestCapOfNoUse(t *testing.T) {
	q := api.Query{From: []int{0, 1, 0, 1}, Where: where(one(less(0, 2)), one(not(eq(1, 3))), one(equals(4, 3))), Select: []int{0, 5}}
	p := ended(t, exampleCatalog(), q, 1, func(n int) int { return n })
	if _, cost := p.Best(); p.Status() != api.Done || cost != leastOf(t, exampleCatalog(), q) {
		t.Errorf("P9: with the cap 1: status %d, cost %d", p.Status(), cost)
	}
}
