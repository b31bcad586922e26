package scout_test

import (
	"math"
	"math/big"
	"slices"
	"strings"

	"scout/api"
)

// oraclePlan tells of a plan what the document's words say, sentence by
// sentence, and looks at all that is below a node anew each time.
type oraclePlan struct {
	cat   []api.Table
	q     api.Query
	nodes []api.Node
}

// oracleFields: what each kind has, as the table of kinds lists it.
func oracleFields(kind int) string {
	switch kind {
	case api.Scan:
		return "Source"
	case api.Filter:
		return "L, Clauses"
	case api.Loop:
		return "L, R, Clauses"
	case api.Hash, api.Merge:
		return "L, R, Clauses, Key"
	case api.Sort:
		return "L, Cols"
	case api.Group, api.Stream, api.Project, api.Arrange:
		return "L"
	}
	return ""
}

func has(n api.Node, field string) bool {
	return strings.Contains(oracleFields(n.Kind), field)
}

func (o oraclePlan) inputs(n api.Node) []int {
	var list []int
	if has(n, "L") {
		list = append(list, n.L)
	}
	if has(n, "R") {
		list = append(list, n.R)
	}
	return list
}

func (o oraclePlan) isPlan() bool {
	if len(o.nodes) < 1 || len(o.nodes) > 64 {
		return false
	}
	for i, n := range o.nodes {
		if oracleFields(n.Kind) == "" {
			return false
		}
		for field, idle := range map[string]bool{"L": n.L == 0, "R": n.R == 0, "Source": n.Source == 0, "Key": n.Key == 0, "Clauses": len(n.Clauses) == 0, "Cols": len(n.Cols) == 0} {
			if !has(n, field) && !idle {
				return false
			}
		}
		for _, input := range o.inputs(n) {
			if input < 0 || input >= i {
				return false
			}
		}
		users := 0
		for _, m := range o.nodes {
			if slices.Contains(o.inputs(m), i) {
				users++
			}
		}
		if i < len(o.nodes)-1 && users != 1 {
			return false
		}
	}
	return true
}

// below: the node and all from which its rows come.
func (o oraclePlan) below(i int) []api.Node {
	list := []api.Node{o.nodes[i]}
	for _, input := range o.inputs(o.nodes[i]) {
		list = append(list, o.below(input)...)
	}
	return list
}

func (o oraclePlan) sources(i int) []int {
	var list []int
	for _, n := range o.below(i) {
		if n.Kind == api.Scan {
			list = append(list, n.Source)
		}
	}
	slices.Sort(list)
	return slices.Compact(list)
}

func (o oraclePlan) clauses(i int) []int {
	var list []int
	for _, n := range o.below(i) {
		list = append(list, n.Clauses...)
	}
	slices.Sort(list)
	return slices.Compact(list)
}

func (o oraclePlan) order(i int) []int {
	n := o.nodes[i]
	switch n.Kind {
	case api.Sort:
		return n.Cols
	case api.Filter, api.Loop, api.Hash, api.Merge:
		return o.order(n.L)
	}
	return nil
}

// origin: the source and the place there of a column; no source of none.
func (o oraclePlan) origin(column int) (source, place int) {
	for source, table := range o.q.From {
		if column >= 0 && column < o.cat[table].Cols {
			return source, column
		}
		column -= o.cat[table].Cols
	}
	return -1, 0
}

func (o oraclePlan) belongs(column, i int) bool {
	source, _ := o.origin(column)
	return slices.Contains(o.sources(i), source)
}

func oracleColumns(clause api.Clause) []int {
	var list []int
	for _, c := range clause.Alts {
		list = append(list, c.Left)
		if !c.Const && c.Op != api.Nil {
			list = append(list, c.Right)
		}
	}
	return list
}

func oracleBegins(list, start []int) bool {
	for k, n := range start {
		if k >= len(list) || list[k] != n {
			return false
		}
	}
	return true
}

// keys: the key columns of a Hash or Merge.
func (o oraclePlan) keys(n api.Node) (left, right int, ok bool) {
	if !slices.Contains(n.Clauses, n.Key) {
		return 0, 0, false
	}
	alts := o.q.Where[n.Key].Alts
	if len(alts) != 1 || alts[0].Op != api.Eq || alts[0].Not || alts[0].Const {
		return 0, 0, false
	}
	a, b := alts[0].Left, alts[0].Right
	if o.belongs(b, n.L) {
		a, b = b, a
	}
	return a, b, o.belongs(a, n.L) && o.belongs(b, n.R)
}

func (o oraclePlan) isFair() bool {
	if !o.isPlan() {
		return false
	}
	for i := range o.nodes {
		if !o.clausesFair(i) || !o.nodeFair(i) || !o.endsFair(i) {
			return false
		}
	}
	last := o.nodes[len(o.nodes)-1]
	if last.Kind < api.Group {
		return false
	}
	if len(o.q.Order) == 0 || last.Kind == api.Arrange {
		return true
	}
	if last.Kind == api.Project {
		return oracleBegins(o.order(last.L), oraclePick(o.q.Select, o.q.Order))
	}
	return last.Kind == api.Stream && len(o.q.Order) <= len(o.q.Keys) && slices.Equal(o.q.Order, []int{0, 1, 2, 3}[:len(o.q.Order)])
}

func (o oraclePlan) clausesFair(i int) bool {
	for k, c := range o.nodes[i].Clauses {
		if c < 0 || c >= len(o.q.Where) || k > 0 && c <= o.nodes[i].Clauses[k-1] {
			return false
		}
		for _, column := range oracleColumns(o.q.Where[c]) {
			if !o.belongs(column, i) {
				return false
			}
		}
	}
	return true
}

func (o oraclePlan) nodeFair(i int) bool {
	n := o.nodes[i]
	switch n.Kind {
	case api.Scan:
		return n.Source >= 0 && n.Source < len(o.q.From)
	case api.Filter:
		return len(n.Clauses) > 0
	case api.Loop, api.Hash, api.Merge:
		for _, source := range o.sources(n.L) {
			if slices.Contains(o.sources(n.R), source) {
				return false
			}
		}
		if n.Kind == api.Loop {
			return true
		}
		left, right, ok := o.keys(n)
		if n.Kind == api.Hash {
			return ok
		}
		return ok && oracleBegins(o.order(n.L), []int{left}) && oracleBegins(o.order(n.R), []int{right})
	case api.Sort:
		for k, column := range n.Cols {
			if !o.belongs(column, n.L) || slices.Contains(n.Cols[:k], column) {
				return false
			}
		}
		return len(n.Cols) > 0
	}
	return true
}

// endsFair: the sentences about Group, Stream, Project and Arrange.
func (o oraclePlan) endsFair(i int) bool {
	n := o.nodes[i]
	for _, input := range o.inputs(n) {
		if n.Kind != api.Arrange && o.nodes[input].Kind >= api.Group {
			return false
		}
	}
	switch n.Kind {
	case api.Arrange:
		return len(o.q.Order) > 0 && o.nodes[n.L].Kind >= api.Group
	case api.Group, api.Stream, api.Project:
		if o.q.Group == (n.Kind == api.Project) || n.Kind == api.Stream && !oracleBegins(o.order(n.L), o.q.Keys) {
			return false
		}
		return len(o.sources(n.L)) == len(o.q.From) && len(o.clauses(n.L)) == len(o.q.Where)
	}
	return true
}

// rows: what comes out of a node of a fair plan. Rows of columns have a place
// for each of the query's columns, those of other sources are marked.
func (o oraclePlan) rows(i int, db [][][]int) [][]int {
	n := o.nodes[i]
	if n.Kind == api.Scan {
		return o.scanned(n.Source, db)
	}
	list := o.rows(n.L, db)
	switch n.Kind {
	case api.Loop, api.Hash, api.Merge:
		var joined [][]int
		right := o.rows(n.R, db)
		for _, a := range list {
			for _, b := range right {
				joined = append(joined, laidOver(a, b))
			}
		}
		list = joined
	case api.Sort, api.Arrange:
		places := n.Cols
		if n.Kind == api.Arrange {
			places = o.q.Order
		}
		for _, place := range slices.Backward(places) {
			oracleSort(list, place)
		}
	case api.Group, api.Stream:
		return oracleGroups(o.q, list)
	case api.Project:
		for k, row := range list {
			list[k] = oraclePick(row, o.q.Select)
		}
	}
	var clauses []api.Clause
	for _, c := range n.Clauses {
		clauses = append(clauses, o.q.Where[c])
	}
	return slices.DeleteFunc(list, func(row []int) bool { return !oracleKeeps(clauses, row) })
}

func (o oraclePlan) scanned(source int, db [][][]int) [][]int {
	var list [][]int
	for _, values := range db[o.q.From[source]] {
		var row []int
		for from, table := range o.q.From {
			if from == source {
				row = append(row, values...)
			} else {
				row = append(row, slices.Repeat([]int{mark}, o.cat[table].Cols)...)
			}
		}
		list = append(list, row)
	}
	return list
}

func laidOver(a, b []int) []int {
	row := slices.Clone(a)
	for k, value := range b {
		if value != mark {
			row[k] = value
		}
	}
	return row
}

func capped(n *big.Int) *big.Int {
	most := new(big.Int).SetUint64(math.MaxUint64)
	if n.Cmp(most) > 0 {
		return most
	}
	return n
}

func (o oraclePlan) parts(clause api.Clause) int {
	kinds := func(column int) int {
		source, place := o.origin(column)
		return o.cat[o.q.From[source]].Kinds[place]
	}
	c := clause.Alts[0]
	switch {
	case len(clause.Alts) != 1 || c.Not:
		return 2
	case c.Op == api.Less:
		return 3
	case c.Op == api.Nil:
		return 10
	case c.Const:
		return kinds(c.Left)
	}
	return max(kinds(c.Left), kinds(c.Right))
}

func (o oraclePlan) size(i int) *big.Int {
	if o.nodes[i].Kind >= api.Group {
		return o.size(o.nodes[i].L)
	}
	size := big.NewInt(1)
	for _, source := range o.sources(i) {
		size.Mul(size, big.NewInt(int64(o.cat[o.q.From[source]].Rows)))
	}
	size = capped(size)
	if size.Sign() == 0 {
		return size
	}
	for _, c := range o.clauses(i) {
		size.Div(size, big.NewInt(int64(o.parts(o.q.Where[c]))))
	}
	if size.Sign() == 0 {
		size.SetInt64(1)
	}
	return size
}

func (o oraclePlan) cost(i int) *big.Int {
	n := o.nodes[i]
	cost, s := new(big.Int), o.size(i)
	add := func(numbers ...*big.Int) {
		for _, number := range numbers {
			cost.Add(cost, number)
		}
	}
	for _, input := range o.inputs(n) {
		add(o.cost(input))
	}
	l, r := new(big.Int), new(big.Int)
	if has(n, "L") {
		l = o.size(n.L)
	}
	if has(n, "R") {
		r = o.size(n.R)
	}
	switch n.Kind {
	case api.Scan:
		add(s, big.NewInt(1))
	case api.Filter, api.Stream, api.Project:
		add(l)
	case api.Loop:
		add(new(big.Int).Mul(l, r))
	case api.Hash:
		add(l, r, r, s)
	case api.Merge:
		add(l, r, s)
	case api.Sort, api.Arrange:
		add(new(big.Int).Mul(l, big.NewInt(int64(l.BitLen()+1))))
	case api.Group:
		add(l, l)
	}
	return capped(cost)
}
