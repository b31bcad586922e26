package scout_test

import (
	"math/rand"
	"slices"
	"testing"

	"scout/api"
	"scout/scout"
)

// maker lays fair plans at random.
type maker struct {
	r     *rand.Rand
	cat   []api.Table
	q     api.Query
	nodes []api.Node
}

func (m *maker) oracle() oraclePlan { return oraclePlan{m.cat, m.q, m.nodes} }

func (m *maker) lay(n api.Node) int {
	m.nodes = append(m.nodes, n)
	return len(m.nodes) - 1
}

// some: of the clauses that may stand at a node of these sources, some, and
// among them all that must.
func (m *maker) some(sources []int, must ...int) []int {
	var list []int
	for c, clause := range m.q.Where {
		fits := true
		for _, column := range oracleColumns(clause) {
			source, _ := m.oracle().origin(column)
			fits = fits && slices.Contains(sources, source)
		}
		if fits && (slices.Contains(must, c) || m.r.Intn(3) == 0) {
			list = append(list, c)
		}
	}
	return list
}

// columns: some of those of a node, in any order.
func (m *maker) columns(i int) []int {
	var list []int
	sources := m.oracle().sources(i)
	for column := range 20 {
		if source, _ := m.oracle().origin(column); slices.Contains(sources, source) {
			list = append(list, column)
		}
	}
	m.r.Shuffle(len(list), func(a, b int) { list[a], list[b] = list[b], list[a] })
	return list[:1+m.r.Intn(len(list))]
}

// sorted: the node, sorted by these columns, and perhaps by more.
func (m *maker) sorted(i int, first ...int) int {
	cols := slices.Clone(first)
	for _, column := range m.columns(i) {
		if m.r.Intn(2) == 0 && !slices.Contains(cols, column) {
			cols = append(cols, column)
		}
	}
	if len(cols) == 0 || m.r.Intn(2) == 0 && oracleBegins(m.oracle().order(i), cols) {
		return i
	}
	return m.lay(api.Node{Kind: api.Sort, L: i, Cols: cols})
}

// dressed: the node, perhaps with Filters and Sorts upon it.
func (m *maker) dressed(i int) int {
	for m.r.Intn(3) == 0 {
		if clauses := m.some(m.oracle().sources(i)); len(clauses) > 0 && m.r.Intn(2) == 0 {
			i = m.lay(api.Node{Kind: api.Filter, L: i, Clauses: clauses})
		} else {
			i = m.lay(api.Node{Kind: api.Sort, L: i, Cols: m.columns(i)})
		}
	}
	return i
}

// joined: a tree of these sources.
func (m *maker) joined(sources []int) int {
	if len(sources) == 1 {
		return m.dressed(m.lay(api.Node{Kind: api.Scan, Source: sources[0]}))
	}
	cut := 1 + m.r.Intn(len(sources)-1)
	n := api.Node{Kind: api.Loop, L: m.joined(sources[:cut]), R: m.joined(sources[cut:])}
	for key := range m.q.Where {
		n.Clauses, n.Key = []int{key}, key
		left, right, ok := m.oracle().keys(n)
		if !ok || m.r.Intn(4) == 0 {
			continue
		}
		if n.Kind = api.Hash; m.r.Intn(2) == 0 {
			n.Kind = api.Merge
			n.L, n.R = m.sorted(n.L, left), m.sorted(n.R, right)
		}
		n.Clauses = m.some(sources, key)
		return m.dressed(m.lay(n))
	}
	n.Clauses, n.Key = m.some(sources), 0
	return m.dressed(m.lay(n))
}

// randomPlan: a fair plan of the query.
func randomPlan(r *rand.Rand, cat []api.Table, q api.Query) []api.Node {
	m := &maker{r: r, cat: cat, q: q}
	top := m.joined(r.Perm(len(q.From)))
	if have := m.oracle().clauses(top); len(have) < len(q.Where) {
		var missing []int
		for c := range q.Where {
			if !slices.Contains(have, c) {
				missing = append(missing, c)
			}
		}
		top = m.dressed(m.lay(api.Node{Kind: api.Filter, L: top, Clauses: m.some([]int{0, 1, 2, 3, 4}, missing...)}))
	}
	m.end(top)
	return m.nodes
}

// end: what is put out of a node that stands for all, and nodes that change places.
func (m *maker) end(top int) {
	q, r := m.q, m.r
	switch {
	case q.Group && r.Intn(2) == 0:
		top = m.lay(api.Node{Kind: api.Stream, L: m.sorted(top, q.Keys...)})
	case q.Group:
		top = m.lay(api.Node{Kind: api.Group, L: top})
	default:
		wanted := oraclePick(q.Select, q.Order)
		if slices.Sort(wanted); r.Intn(2) == 0 && len(slices.Compact(wanted)) == len(q.Order) {
			top = m.sorted(top, oraclePick(q.Select, q.Order)...)
		}
		top = m.lay(api.Node{Kind: api.Project, L: top})
	}
	for len(q.Order) > 0 && (r.Intn(4) == 0 || !m.oracle().isFair()) {
		top = m.lay(api.Node{Kind: api.Arrange, L: top})
	}
	mixed(r, m.nodes)
}

// mixed: neighbours change places, where neither has need of the other.
func mixed(r *rand.Rand, nodes []api.Node) {
	if len(nodes) < 3 {
		return
	}
	for range r.Intn(20) {
		i := r.Intn(len(nodes) - 2)
		if below := (oraclePlan{nodes: nodes}).inputs(nodes[i+1]); slices.Contains(below, i) {
			continue
		}
		nodes[i], nodes[i+1] = nodes[i+1], nodes[i]
		for k := range nodes {
			if has(nodes[k], "L") {
				nodes[k].L = swapped(nodes[k].L, i)
			}
			if has(nodes[k], "R") {
				nodes[k].R = swapped(nodes[k].R, i)
			}
		}
	}
}

func swapped(n, i int) int {
	switch n {
	case i:
		return i + 1
	case i + 1:
		return i
	}
	return n
}

// plannedCase: as randomCase, with many clauses that may be keys, with
// counts of all kinds, and with a fair plan of at most 64 nodes.
func plannedCase(r *rand.Rand) ([]api.Table, api.Query, [][][]int, []api.Node) {
	cat, q, db := randomCase(r)
	for i := range cat {
		cat[i].Rows = []int{0, 1, 2, 7, 8, 100, 12345, 1000000}[r.Intn(8)]
		for k := range cat[i].Kinds {
			cat[i].Kinds[k] = []int{1, 2, 3, 10, 100, 1000000}[r.Intn(6)]
		}
	}
	columns := 0
	for _, table := range q.From {
		columns += cat[table].Cols
	}
	for range r.Intn(4) {
		q.Where = append(q.Where, one(eq(r.Intn(columns), r.Intn(columns))))
	}
	r.Shuffle(len(q.Where), func(a, b int) { q.Where[a], q.Where[b] = q.Where[b], q.Where[a] })
	for {
		if nodes := randomPlan(r, cat, q); len(nodes) <= api.MaxNodes {
			return cat, q, db, nodes
		}
	}
}

// TestPlansAgainstOracle: P5, P6. Fair plans at random.
func TestPlansAgainstOracle(t *testing.T) {
	r := rand.New(rand.NewSource(4))
	kinds, several := map[int]int{}, 0
	for range 6000 {
		cat, q, db, nodes := plannedCase(r)
		o := oraclePlan{cat, q, nodes}
		if !o.isFair() {
			t.Fatalf("a plan was made that is not fair: %+v, %+v, %+v", cat, q, nodes)
		}
		holdAgainstOracle(t, o, db)
		if len(oracle(q, db)) > 1 {
			several++
		}
		for _, n := range nodes {
			kinds[n.Kind]++
		}
	}
	for kind := api.Scan; kind <= api.Arrange; kind++ {
		if kinds[kind] < 500 {
			t.Errorf("only %d nodes of the kind %d: the cases tell too little", kinds[kind], kind)
		}
	}
	if several < 1000 {
		t.Errorf("only %d plans gave more than one row: the cases tell too little", several)
	}
}

// sameAnswer: the same rows, in an order that is alike in the places of Order.
func sameAnswer(q api.Query, got, answer [][]int) bool {
	if len(got) != len(answer) {
		return false
	}
	for i := range got {
		if !slices.Equal(oraclePick(got[i], q.Order), oraclePick(answer[i], q.Order)) {
			return false
		}
	}
	a, b := slices.Clone(got), slices.Clone(answer)
	slices.SortFunc(a, slices.Compare[[]int])
	slices.SortFunc(b, slices.Compare[[]int])
	return sameRows(a, b)
}

// bent: a plan in which something was changed.
func bent(r *rand.Rand, nodes []api.Node) []api.Node {
	nodes = slices.Clone(nodes)
	i := r.Intn(len(nodes))
	n := &nodes[i]
	n.Clauses, n.Cols = slices.Clone(n.Clauses), slices.Clone(n.Cols)
	near := func(number int) int { return number + r.Intn(3) - 1 }
	switch r.Intn(13) {
	case 0:
		n.Kind = 1 + r.Intn(10)
	case 1:
		n.L = near(n.L)
	case 2:
		n.R = near(n.R)
	case 3:
		n.L, n.R = n.R, n.L
	case 4:
		n.Source = near(n.Source)
	case 5:
		n.Key = near(n.Key)
	case 6:
		n.Clauses = bentList(r, n.Clauses)
	case 7:
		n.Cols = bentList(r, n.Cols)
	case 8:
		nodes = slices.Delete(nodes, i, i+1)
	case 9:
		nodes = nodes[:i]
	case 10:
		nodes = append(nodes, api.Node{Kind: 6 + r.Intn(5), L: len(nodes) - 1})
	case 11:
		n.Kind = []int{api.Loop, api.Hash, api.Merge, api.Group, api.Stream, api.Project}[r.Intn(6)]
	case 12:
		m := nodes[r.Intn(len(nodes))]
		n.Kind, n.Clauses, n.Key, n.Cols = m.Kind, m.Clauses, m.Key, m.Cols
	}
	return nodes
}

func bentList(r *rand.Rand, list []int) []int {
	switch r.Intn(4) {
	case 0:
		return append(list, r.Intn(8)-1)
	case 1:
		if len(list) > 0 {
			return list[1:]
		}
	case 2:
		if len(list) > 0 {
			list[r.Intn(len(list))] = r.Intn(10) - 1
		}
	case 3:
		slices.Reverse(list)
	}
	return list
}

// TestBentPlansAgainstOracle: P5. Of plans that nearly are fair, some still are.
func TestBentPlansAgainstOracle(t *testing.T) {
	r := rand.New(rand.NewSource(5))
	seen := map[bool]int{}
	for range 4000 {
		cat, q, db, nodes := plannedCase(r)
		for range 8 {
			bentNodes := nodes
			for range 1 + r.Intn(3) {
				if len(bentNodes) > 0 {
					bentNodes = bent(r, bentNodes)
				}
			}
			seen[holdAgainstOracle(t, oraclePlan{cat, q, bentNodes}, db)]++
		}
	}
	if seen[true] < 2000 || seen[false] < 10000 {
		t.Errorf("%d fair plans, %d others: the cases tell too little", seen[true], seen[false])
	}
}

// TestPlansOfOtherQueries: P5. Fair plans are seldom fair for another query.
func TestPlansOfOtherQueries(t *testing.T) {
	r := rand.New(rand.NewSource(6))
	seen := map[bool]int{}
	for range 3000 {
		cat, q, db, nodes := plannedCase(r)
		for range 8 {
			seen[holdAgainstOracle(t, oraclePlan{cat, bentQuery(r, q), nodes}, db)]++
		}
	}
	if seen[true] < 2000 || seen[false] < 2000 {
		t.Errorf("%d fair plans, %d others: the cases tell too little", seen[true], seen[false])
	}
}

// bentQuery: a query of the same columns in which something was changed.
func bentQuery(r *rand.Rand, q api.Query) api.Query {
	switch r.Intn(5) {
	case 0:
		q.Order = r.Perm(len(q.Select) + len(q.Keys))[:r.Intn(min(4, len(q.Select)+len(q.Keys))+1)]
	case 1:
		q.Order = []int{0, 1, 2, 3}[:min(4, len(q.Select)+len(q.Keys))]
	case 2:
		q.Keys = slices.Clone(q.Keys)
		slices.Reverse(q.Keys)
	case 3:
		q.Where = slices.Clone(q.Where)
		for i, clause := range q.Where {
			c := clause.Alts[0]
			c.Not = r.Intn(4) == 0
			q.Where[i] = one(c)
		}
	case 4:
		q.Where = q.Where[:r.Intn(len(q.Where)+1)]
	}
	return q
}

// holdAgainstOracle: P5, P6. It tells whether the plan is fair.
func holdAgainstOracle(t *testing.T, o oraclePlan, db [][][]int) bool {
	t.Helper()
	fair := o.isFair()
	want := api.ErrPlan
	if fair {
		want = api.OK
	}
	if e := scout.Fair(o.cat, o.q, o.nodes); e != want {
		t.Fatalf("P5: Fair of %+v: %d, want %d", o, e, want)
	}
	rows, e := scout.Exec(o.cat, o.q, o.nodes, db)
	cost, f := scout.Cost(o.cat, o.q, o.nodes)
	if e != want || f != want || !fair && (rows != nil || cost != 0) {
		t.Fatalf("P5, P6: Exec of %+v: %v, %d; Cost: %d, %d, want %d", o, rows, e, cost, f, want)
	}
	if !fair {
		return false
	}
	last := len(o.nodes) - 1
	if wanted := o.rows(last, db); !sameRows(rows, wanted) {
		t.Fatalf("P5: Exec of %+v on %v: %v, want %v", o, db, rows, wanted)
	}
	if wanted := o.cost(last).Uint64(); cost != wanted {
		t.Fatalf("P6: Cost of %+v: %d, want %d", o, cost, wanted)
	}
	if answer := oracle(o.q, db); !sameAnswer(o.q, rows, answer) {
		t.Fatalf("P5: Exec of %+v on %v: %v, but the answer is %v", o, db, rows, answer)
	}
	return true
}
