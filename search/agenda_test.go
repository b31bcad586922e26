package search

import (
	"math"
	"slices"
	"testing"
)

// TestTake: any number picks a task, by what is left when it is divided by how many there are.
func TestTake(t *testing.T) {
	full := func() agenda {
		var a agenda
		a.add(task{2, 1}, task{1, 2}, task{left: 4}, task{3, 8}, task{1, 2}, task{2, 8}, task{left: 4})
		return a
	}
	order := agenda{{left: 4}, {3, 8}, {1, 2}, {2, 1}, {2, 8}}
	if got := full(); !slices.Equal(got, order) {
		t.Fatalf("the agenda is %v, want %v", got, order)
	}
	for _, c := range []struct{ pick, place int }{
		{0, 0}, {1, 1}, {4, 4}, {5, 0}, {7, 2}, {-1, 4}, {-4, 1}, {-5, 0}, {-6, 4},
		{math.MaxInt, 2}, {math.MinInt, 2}, // 9223372036854775807 is 2 more than a multiple of 5, -9223372036854775808 too
	} {
		a := full()
		if got := a.take(a.place(c.pick)); got != order[c.place] {
			t.Errorf("the pick %d takes %v, want %v", c.pick, got, order[c.place])
		}
		if rest := slices.Delete(slices.Clone(order), c.place, c.place+1); !slices.Equal(a, rest) {
			t.Errorf("the pick %d leaves %v, want %v", c.pick, a, rest)
		}
	}
}
