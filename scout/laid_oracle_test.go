package scout_test

import (
	"fmt"
	"math/big"
	"math/rand"
	"slices"
	"testing"

	"scout/api"
	"scout/scout"
)

// within: whether all columns of a clause belong to these sources.
func (o oraclePlan) within(clause api.Clause, sources []int) bool {
	for _, column := range oracleColumns(clause) {
		if source, _ := o.origin(column); !slices.Contains(sources, source) {
			return false
		}
	}
	return true
}

// own: the clauses that concern one source alone.
func (o oraclePlan) own(source int) []int {
	var list []int
	for c, clause := range o.q.Where {
		if o.within(clause, []int{source}) {
			list = append(list, c)
		}
	}
	return list
}

// between: the clauses of both sides together that are neither side's alone.
func (o oraclePlan) between(left, right []int) []int {
	var list []int
	for c, clause := range o.q.Where {
		if o.within(clause, slices.Concat(left, right)) && !o.within(clause, left) && !o.within(clause, right) {
			list = append(list, c)
		}
	}
	return list
}

// isWellLaid: the words of the document, of a plan that is fair.
func (o oraclePlan) isWellLaid() bool {
	filters := map[int][]int{} // by the Scan that is filtered
	for _, n := range o.nodes {
		switch n.Kind {
		case api.Filter:
			if o.nodes[n.L].Kind != api.Scan {
				return false
			}
			filters[n.L] = n.Clauses
		case api.Loop, api.Hash, api.Merge:
			if !slices.Equal(n.Clauses, o.between(o.sources(n.L), o.sources(n.R))) {
				return false
			}
		}
	}
	for i, n := range o.nodes {
		if n.Kind == api.Scan && !slices.Equal(filters[i], o.own(n.Source)) {
			return false
		}
	}
	return o.isFair()
}

// laidJoined: a well laid tree of these sources, sorted here and there.
func (m *maker) laidJoined(sources []int) int {
	if len(sources) == 1 {
		i := m.lay(api.Node{Kind: api.Scan, Source: sources[0]})
		if own := m.oracle().own(sources[0]); len(own) > 0 {
			i = m.lay(api.Node{Kind: api.Filter, L: i, Clauses: own})
		}
		return m.perhapsSorted(i)
	}
	cut := 1 + m.r.Intn(len(sources)-1)
	n := api.Node{Kind: api.Loop, Clauses: m.oracle().between(sources[:cut], sources[cut:])}
	n.L, n.R = m.laidJoined(sources[:cut]), m.laidJoined(sources[cut:])
	for _, key := range n.Clauses {
		keyed := n
		keyed.Key = key
		left, right, ok := m.oracle().keys(keyed)
		if !ok || m.r.Intn(4) == 0 {
			continue
		}
		if keyed.Kind = api.Hash; m.r.Intn(2) == 0 {
			keyed.Kind = api.Merge
			keyed.L, keyed.R = m.sorted(n.L, left), m.sorted(n.R, right)
		}
		n = keyed
		break
	}
	return m.perhapsSorted(m.lay(n))
}

func (m *maker) perhapsSorted(i int) int {
	if m.r.Intn(4) > 0 {
		return i
	}
	return m.lay(api.Node{Kind: api.Sort, L: i, Cols: m.columns(i)})
}

// wellLaidPlan: a plan at random that is well laid.
func wellLaidPlan(r *rand.Rand, cat []api.Table, q api.Query) []api.Node {
	m := &maker{r: r, cat: cat, q: q}
	m.end(m.laidJoined(r.Perm(len(q.From))))
	return m.nodes
}

// way: what rows in an order cost at least.
type way struct {
	name  string // of the order
	order []int
	cost  *big.Int
}

// ways: by order, of one set of sources.
type ways map[string]way

func (w ways) offer(order []int, cost *big.Int) {
	w.put(way{fmt.Sprint(order), order, cost})
}

func (w ways) put(a way) {
	if old, ok := w[a.name]; !ok || a.cost.Cmp(old.cost) < 0 {
		w[a.name] = a
	}
}

func added(numbers ...*big.Int) *big.Int {
	total := new(big.Int)
	for _, n := range numbers {
		total.Add(total, n)
	}
	return total
}

func sortCost(l *big.Int) *big.Int {
	return new(big.Int).Mul(l, big.NewInt(int64(l.BitLen()+1)))
}

// leastLaid: what the cheapest of all plans that are well laid costs, found by
// going through all sets of sources, and all lists of columns of up to two,
// and Keys, and those of Order, as orders.
func leastLaid(cat []api.Table, q api.Query) uint64 {
	o := oraclePlan{cat: cat, q: q}
	tables, sizes := make([]ways, 1<<len(q.From)), make([]*big.Int, 1<<len(q.From))
	for set := 1; set < len(tables); set++ {
		w := ways{}
		sizes[set] = o.setSize(set)
		tables[set] = w
		if sources := members(set); len(sources) == 1 {
			scanned := oraclePlan{cat, q, nodes{scan(sources[0])}}
			cost := scanned.cost(0)
			if len(o.own(sources[0])) > 0 {
				cost = added(cost, scanned.size(0))
			}
			w.offer(nil, cost)
		}
		for left := (set - 1) & set; left > 0; left = (left - 1) & set {
			o.layTogether(w, tables, sizes, left, set^left)
		}
		var least *big.Int
		for _, one := range w {
			if least == nil || one.cost.Cmp(least) < 0 {
				least = one.cost
			}
		}
		for _, order := range o.orders(members(set)) {
			w.offer(order, added(least, sortCost(sizes[set])))
		}
	}
	return o.leastEnd(tables[len(tables)-1])
}

func members(set int) []int {
	var list []int
	for n := range 5 {
		if set>>n&1 == 1 {
			list = append(list, n)
		}
	}
	return list
}

// setSize: by a plan that lays all of the set together.
func (o oraclePlan) setSize(set int) *big.Int {
	var list nodes
	for k, source := range members(set) {
		if list = append(list, scan(source)); k > 0 {
			list = append(list, loop(len(list)-2, len(list)-1))
		}
	}
	for c, clause := range o.q.Where {
		if o.within(clause, members(set)) {
			list = append(list, filter(len(list)-1, c))
		}
	}
	return oraclePlan{o.cat, o.q, list}.size(len(list) - 1)
}

func (o oraclePlan) orders(sources []int) [][]int {
	var columns []int
	for column := range 20 {
		if source, _ := o.origin(column); slices.Contains(sources, source) {
			columns = append(columns, column)
		}
	}
	var lists [][]int
	for _, a := range columns {
		lists = append(lists, []int{a})
		for _, b := range columns {
			if a != b {
				lists = append(lists, []int{a, b})
			}
		}
	}
	for _, list := range [][]int{o.q.Keys, o.wanted()} {
		sortable := len(list) > 0
		for i, column := range list {
			sortable = sortable && slices.Contains(columns, column) && !slices.Contains(list[:i], column)
		}
		if sortable {
			lists = append(lists, list)
		}
	}
	return lists
}

// wanted: the columns that stand in the places of Order.
func (o oraclePlan) wanted() []int {
	if o.q.Group {
		return nil
	}
	return oraclePick(o.q.Select, o.q.Order)
}

func (o oraclePlan) layTogether(w ways, tables []ways, sizes []*big.Int, left, right int) {
	l, r, s := sizes[left], sizes[right], sizes[left|right]
	type columns struct{ left, right int }
	var keys []columns
	for _, c := range o.between(members(left), members(right)) {
		alts := o.q.Where[c].Alts
		if len(alts) != 1 || alts[0].Op != api.Eq || alts[0].Not || alts[0].Const {
			continue
		}
		key := columns{alts[0].Left, alts[0].Right}
		if source, _ := o.origin(key.left); left>>source&1 == 0 {
			key = columns{key.right, key.left}
		}
		keys = append(keys, key)
	}
	for _, a := range tables[left] {
		for _, b := range tables[right] {
			both := added(a.cost, b.cost)
			w.put(way{a.name, a.order, added(both, new(big.Int).Mul(l, r))})
			for _, key := range keys {
				w.put(way{a.name, a.order, added(both, l, r, r, s)})
				if oracleBegins(a.order, []int{key.left}) && oracleBegins(b.order, []int{key.right}) {
					w.put(way{a.name, a.order, added(both, l, r, s)})
				}
			}
		}
	}
}

func (o oraclePlan) leastEnd(all ways) uint64 {
	q := o.q
	l := o.setSize(1<<len(q.From) - 1)
	arrange := new(big.Int)
	if len(q.Order) > 0 {
		arrange = sortCost(l)
	}
	ended := ways{}
	offer := func(cost *big.Int) { ended.offer(nil, cost) }
	for _, w := range all {
		if !q.Group {
			offer(added(w.cost, l, arrange))
			if len(q.Order) > 0 && oracleBegins(w.order, o.wanted()) {
				offer(added(w.cost, l))
			}
			continue
		}
		offer(added(w.cost, l, l, arrange))
		if oracleBegins(w.order, q.Keys) {
			offer(added(w.cost, l, arrange))
			if len(q.Order) <= len(q.Keys) && slices.Equal(q.Order, []int{0, 1, 2, 3}[:len(q.Order)]) {
				offer(added(w.cost, l))
			}
		}
	}
	return capped(ended[fmt.Sprint([]int(nil))].cost).Uint64()
}

// soughtCase: a catalog, and a query of so many sources with many clauses that
// may be keys.
func soughtCase(r *rand.Rand, sources int) ([]api.Table, api.Query) {
	cat := make([]api.Table, 1+r.Intn(4))
	counts := [][]int{{0, 1, 2, 5, 9, 30, 3000}, {2, 9, 100, 3000}, {100, 3000, 1000000}}[r.Intn(3)]
	for i := range cat {
		cat[i] = api.Table{Cols: 1 + r.Intn(3), Rows: counts[r.Intn(len(counts))]}
		for k := range cat[i].Kinds {
			cat[i].Kinds[k] = []int{1, 2, 3, 10, 100, 5000, 1000000}[r.Intn(7)]
		}
	}
	var q api.Query
	columns := 0
	for range sources {
		q.From = append(q.From, r.Intn(len(cat)))
		columns += cat[q.From[len(q.From)-1]].Cols
	}
	column := func(r *rand.Rand) int { return r.Intn(columns) }
	for range r.Intn(6) {
		c := one(eq(column(r), column(r)))
		if r.Intn(3) == 0 {
			c = anyOf(randomConds(r, 1+r.Intn(2), column)...)
		}
		q.Where = append(q.Where, c)
	}
	width := 0
	if q.Group = r.Intn(2) == 0; q.Group {
		q.Keys = r.Perm(columns)[:r.Intn(min(columns, 4)+1)]
		q.Sums = randomList(r, r.Intn(2), column)
		width = len(q.Keys) + 1 + len(q.Sums)
	} else {
		q.Select = randomList(r, 1+r.Intn(4), column)
		width = len(q.Select)
	}
	q.Order = r.Perm(width)[:r.Intn(min(width, 3)+1)]
	if r.Intn(2) == 0 {
		slices.Sort(q.Order)
	}
	return cat, q
}

func randomConds(r *rand.Rand, length int, column func(r *rand.Rand) int) []api.Cond {
	var conds []api.Cond
	for range length {
		conds = append(conds, randomCond(r, column))
	}
	return conds
}

// TestLeastLaid: the oracle against plans at random that are well laid.
func TestLeastLaid(t *testing.T) {
	r := rand.New(rand.NewSource(20))
	reached := 0
	for range 300 {
		cat, q := soughtCase(r, 1+r.Intn(3))
		least := leastLaid(cat, q)
		met := false
		for range 60 {
			list := wellLaidPlan(r, cat, q)
			if o := (oraclePlan{cat, q, list}); !o.isWellLaid() {
				t.Fatalf("a plan was made that is not well laid: %+v", o)
			}
			cost, e := scout.Cost(cat, q, list)
			if e != api.OK || cost < least {
				t.Fatalf("a well laid plan costs %d, %d, but the least is %d: %+v, %+v, %+v", cost, e, least, cat, q, list)
			}
			met = met || cost == least
		}
		if met {
			reached++
		}
	}
	if reached < 150 {
		t.Errorf("the least cost was met only %d times", reached)
	}
}
