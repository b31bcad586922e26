package scout_test

import (
	"math"
	"math/rand"
	"slices"
	"strconv"
	"strings"
	"testing"

	"scout/api"
	"scout/journal"
	"scout/scout"
)

func refused(t *testing.T, what, text string) {
	t.Helper()
	if p, e := scout.Load(text); p != nil || e != api.ErrSaved {
		t.Errorf("P11: Load, %s: %v, %d, want %d: %.200q", what, p, e, api.ErrSaved, text)
	}
}

// savedExample: the text of the example's planner behind some steps.
func savedExample(t *testing.T) string {
	p := started(t, exampleCatalog(), exampleQuery(), 1000)
	p.Run(3, -1, []int{1, 2})
	return p.Save()
}

// TestLoadOtherTexts: P11. Texts that are no planner's.
func TestLoadOtherTexts(t *testing.T) {
	for _, text := range []string{"", " ", "\x00", "\xff\xfe", "x", "scout", "scout ", "Scout 1", "0", "1", "-1", "1 1 1 1 1 1 1", "scout 1 1 1 1 1 1 1", "scout -1", "scout 1000000000", "1073741824", "{}", "\n", "scout\n1", "ß", "scout 1 1"} {
		refused(t, "no planner's text", text)
	}
	r := rand.New(rand.NewSource(60))
	for range 5000 {
		bytes := make([]byte, r.Intn(100))
		r.Read(bytes)
		refused(t, "bytes by chance", string(bytes))
		refused(t, "bytes by chance", "scout "+string(bytes))
		var words []string
		for range r.Intn(60) {
			words = append(words, strconv.Itoa(anyNumber(r)))
		}
		refused(t, "numbers by chance", strings.Join(words, " "))
	}
}

// TestLoadPieces: P11. Cut short, made longer, and written otherwise.
func TestLoadPieces(t *testing.T) {
	text := savedExample(t)
	if _, e := scout.Load(text); e != api.OK {
		t.Fatalf("P11: Load of what was saved: %d", e)
	}
	for i := range text {
		refused(t, "cut short", text[:i])
		refused(t, "its end alone", text[i+1:])
		refused(t, "a blank more", text[:i]+" "+text[i:])
		for _, more := range []string{"\t", "\n", "x", "+", ".", "\x00", "_"} {
			refused(t, "something put in", text[:i]+more+text[i:])
			refused(t, "something in place of another thing", text[:i]+more+text[i+1:])
		}
	}
	for _, more := range []string{" ", "\n", " 0", " 1", " x", "\x00", " " + text} {
		refused(t, "something behind it", text+more)
		refused(t, "something ahead of it", more+text)
	}
	words := strings.Split(text, " ")
	for i, word := range words {
		for _, other := range []string{"", "0" + word, "+" + word, "--" + word, word + ".0", "0x" + word, word + "_", "x", "99999999999999999999", "-99999999999999999999", "9223372036854775807", "-9223372036854775808", "1" + strings.Repeat("0", 1000)} {
			bent := slices.Clone(words)
			bent[i] = other
			refused(t, "another word", strings.Join(bent, " "))
		}
	}
}

// TestLoadWrongJournals: P11. Texts in order, of planners that can't be.
func TestLoadWrongJournals(t *testing.T) {
	for _, c := range []struct {
		name string
		bend func(j *journal.Journal)
	}{
		{"no tables", func(j *journal.Journal) { j.Catalog = nil }},
		{"nine tables", func(j *journal.Journal) { j.Catalog = slices.Repeat(j.Catalog[:1], 9) }},
		{"a table too few", func(j *journal.Journal) { j.Catalog = j.Catalog[:1] }},
		{"Rows -1", func(j *journal.Journal) { j.Catalog[0].Rows = -1 }},
		{"Rows 1000001", func(j *journal.Journal) { j.Catalog[1].Rows = 1000001 }},
		{"no columns", func(j *journal.Journal) { j.Catalog[1].Cols = 0 }},
		{"Kinds 0", func(j *journal.Journal) { j.Catalog[1].Kinds[0] = 0 }},
		{"no source", func(j *journal.Journal) { j.Query.From = nil }},
		{"six sources", func(j *journal.Journal) { j.Query.From = make([]int, 6) }},
		{"nine clauses", func(j *journal.Journal) { j.Query.Where = slices.Repeat(j.Query.Where[:1], 9) }},
		{"a clause without conditions", func(j *journal.Journal) { j.Query.Where[0].Alts = nil }},
		{"four conditions", func(j *journal.Journal) { j.Query.Where[0].Alts = slices.Repeat(j.Query.Where[0].Alts, 4) }},
		{"no such Op", func(j *journal.Journal) { j.Query.Where[0].Alts[0].Op = 3 }},
		{"no Select", func(j *journal.Journal) { j.Query.Select = nil }},
		{"a Select that is no column", func(j *journal.Journal) { j.Query.Select[0] = 3 }},
		{"groups, with Select", func(j *journal.Journal) { j.Query.Group = true }},
		{"Keys without groups", func(j *journal.Journal) { j.Query.Keys = []int{0} }},
		{"Sums without groups", func(j *journal.Journal) { j.Query.Sums = []int{0} }},
		{"an Order that is no place", func(j *journal.Journal) { j.Query.Order[0] = 2 }},
		{"cap 0", func(j *journal.Journal) { j.Cap = 0 }},
		{"cap 1001", func(j *journal.Journal) { j.Cap = 1001 }},
		{"cap below 0", func(j *journal.Journal) { j.Cap = math.MinInt }},
		{"a pick below 0", func(j *journal.Journal) { j.Picks[0] = -1 }},
		{"a pick of what there is not", func(j *journal.Journal) { j.Picks[0] = 2 }},
		{"the greatest pick", func(j *journal.Journal) { j.Picks[0] = math.MaxInt }},
		{"more picks than steps", func(j *journal.Journal) { j.Picks = append(j.Picks, make([]int, 10000)...) }},
		{"status 0", func(j *journal.Journal) { j.Status = 0 }},
		{"status 5", func(j *journal.Journal) { j.Status = 5 }},
		{"done ahead of the end", func(j *journal.Journal) { j.Status = api.Done }},
		{"truncated ahead of the end", func(j *journal.Journal) { j.Status = api.Truncated }},
	} {
		j := journal.Read(savedExample(t))
		c.bend(&j)
		refused(t, c.name, j.Text())
	}
	end := journal.Read(ended(t, exampleCatalog(), exampleQuery(), 1000, func(int) int { return 0 }).Save())
	for status := range 6 {
		if end.Status = status; status != api.Done {
			refused(t, "the end, with the status "+strconv.Itoa(status), end.Text())
		}
	}
	end.Status, end.Picks = api.Done, append(end.Picks, 0)
	refused(t, "a step behind the end", end.Text())
}

// TestLoadLongTexts: P1. Refused in no time.
func TestLoadLongTexts(t *testing.T) {
	text := savedExample(t)
	for _, part := range []string{" ", "1", "1 ", "0 ", "3 ", "scout ", "9223372036854775807 ", text + " "} {
		long := strings.Repeat(part, 1<<22/len(part))
		for _, whole := range []string{long, "scout " + long, text + " " + long, long + text} {
			refused(t, "a long text", whole)
		}
	}
	j := journal.Read(text)
	j.Picks = make([]int, api.MaxSteps+1)
	refused(t, "a million picks", j.Text())
}

// bentText: a text in which one word is another one, or missing, or there twice.
func bentText(r *rand.Rand, text, other string) string {
	words, more := strings.Split(text, " "), strings.Split(other, " ")
	i := 1 + r.Intn(len(words)-1)
	switch r.Intn(6) {
	case 0:
		words[i] = more[1+r.Intn(len(more)-1)]
	case 1:
		words = slices.Delete(words, i, i+1)
	case 2:
		words = slices.Insert(words, i, words[i])
	case 3:
		words = append(words[:i], more[min(i, len(more)):]...)
	default:
		number, _ := strconv.Atoi(words[i])
		words[i] = strconv.Itoa(number + []int{-1, 1, r.Intn(21) - 10}[r.Intn(3)])
	}
	return strings.Join(words, " ")
}

// TestLoadBentTexts: P11. What is not refused is a planner in every way.
func TestLoadBentTexts(t *testing.T) {
	r := rand.New(rand.NewSource(61))
	taken, seen := 0, map[int]int{}
	text := savedExample(t)
	for k := range 600 {
		cat, q := soughtCase(r, 1+k%3)
		p := started(t, cat, q, []int{1, 2, 1000}[r.Intn(3)])
		randomOrder(r)(p)
		other := p.Save()
		for range 20 {
			bent := bentText(r, text, other)
			o, e := scout.Load(bent)
			if e == api.OK && bent != text {
				isPlanner(t, r, bent, o)
				taken++
				seen[o.Status()]++
			}
			if (o != nil) != (e == api.OK) || e != api.OK && e != api.ErrSaved {
				t.Fatalf("P11: Load of %q: %v, %d", bent, o, e)
			}
		}
		text = other
	}
	if taken < 1000 || seen[api.Done] < 300 || seen[api.Truncated] < 50 || seen[api.Cancelled] < 30 {
		t.Errorf("%d bent texts gave planners, with the ends %v: the cases tell too little", taken, seen)
	}
}

// isPlanner: P8 to P10 hold of what a text gave, for the catalog and the query that the text tells.
func isPlanner(t *testing.T, r *rand.Rand, text string, p *scout.Planner) {
	t.Helper()
	j := journal.Read(text)
	twin := started(t, j.Catalog, j.Query, j.Cap)
	_, was := twin.Best()
	twin.Run(p.Steps(), -1, j.Picks)
	if p.Status() == api.Cancelled {
		twin.Run(1, 0, nil)
	}
	samePlanners(t, "P11: what "+text+" gave, and what was started like it", p, twin)
	paused(t, p)
	for steps := p.Steps(); ; steps++ {
		plan, cost := p.Best()
		o := oraclePlan{j.Catalog, j.Query, plan}
		if cost > was || !o.isFair() || o.cost(len(plan)-1).Uint64() != cost {
			t.Fatalf("P8: what %q gave: the cost %d behind %d, of %+v", text, cost, was, plan)
		}
		was = cost
		if p.Steps() != steps {
			t.Fatalf("P9: what %q gave has done %d steps, want %d", text, p.Steps(), steps)
		}
		if p.Status() != api.Running {
			break
		}
		p.Step(r.Int())
	}
	stays(t, p, p.Status())
	if _, cost := p.Best(); p.Status() == api.Done && cost != leastOf(t, j.Catalog, j.Query) {
		t.Fatalf("P9: what %q gave is done with the cost %d", text, cost)
	}
	if j.Cap == 1000 && p.Status() == api.Truncated && mustBeDone(j.Query) {
		t.Fatalf("P9: what %q gave is truncated", text)
	}
}
