package lock_test

import (
	"testing"

	"quiltwork/lock"
)

func TestNobodyIsStuck(t *testing.T) { // P12.4
	var x lock.Table
	asked(t, &x, ask{1, "a", lock.X, true, 0}, ask{2, "b", lock.X, true, 0}, ask{1, "c", lock.S, true, 0})
	same(t, "Stuck of none that waits", x.Stuck())
	asked(t, &x, ask{3, "a", lock.S, false, 0}, ask{4, "a", lock.X, false, 0}, ask{2, "a", lock.X, false, 0}, ask{5, "b", lock.IS, false, 0})
	same(t, "Stuck of those who wait for one that does not, or for such", x.Stuck())
	freed(t, &x, 1, 3)
	same(t, "Stuck behind Free", x.Stuck())
}

func TestTwoAreStuck(t *testing.T) { // P12.4
	var x lock.Table
	asked(t, &x, ask{4, "a", lock.S, true, 0}, ask{2, "b", lock.IX, true, 0}, ask{4, "b", lock.S, false, 0})
	same(t, "Stuck of one", x.Stuck())
	asked(t, &x, ask{2, "a", lock.IX, false, 0})
	same(t, "Stuck of two", x.Stuck(), 2, 4)
	asked(t, &x, ask{1, "c", lock.X, true, 0}, ask{3, "c", lock.X, false, 0}) // who has nothing to do with them
	same(t, "Stuck of two, beside others", x.Stuck(), 2, 4)
	freed(t, &x, 4, 2)
	same(t, "Stuck behind Free", x.Stuck())
}

func TestRingsAreStuck(t *testing.T) { // P12.4
	for n := 2; n <= 6; n++ {
		var x lock.Table
		name := func(k int) string { return string(rune('a' + k%n)) }
		for k := range n {
			asked(t, &x, ask{10 - k, name(k), lock.X, true, 0})
		}
		var all []int
		for k := range n {
			same(t, "Stuck of no ring yet", x.Stuck())
			asked(t, &x, ask{10 - k, name(k + 1), lock.IS, false, 0})
			all = append([]int{10 - k}, all...)
		}
		same(t, "Stuck of a ring", x.Stuck(), all...)
		asked(t, &x, ask{0, "a", lock.IS, false, 0}, ask{20, "x", lock.X, true, 0}, ask{21, "x", lock.X, false, 0}) // behind the ring; and beside it
		same(t, "Stuck of a ring, and who waits for it", x.Stuck(), append([]int{0}, all...)...)
		freed(t, &x, 10, 0, 11-n)
		same(t, "Stuck of a ring that is cut", x.Stuck())
	}
}

func TestStuckBehindOneOfTheQueue(t *testing.T) { // P12.4: what it wants fits all holders, but one ahead of it is stuck
	var x lock.Table
	asked(t, &x, ask{1, "a", lock.S, true, 0}, ask{2, "b", lock.X, true, 0}, ask{2, "a", lock.X, false, 0}, ask{3, "a", lock.S, false, 0}, ask{5, "a", lock.IS, false, 0}, ask{6, "b", lock.X, false, 0})
	same(t, "Stuck", x.Stuck())
	asked(t, &x, ask{1, "b", lock.IS, false, 0})
	same(t, "Stuck", x.Stuck(), 1, 2, 3, 5, 6)
	freed(t, &x, 6)
	same(t, "Stuck", x.Stuck(), 1, 2, 3, 5)
}

func TestStuckThoughAheadOfIt(t *testing.T) { // P12.4: who is ahead of one that is stuck is not, if it waits for none that is
	var x lock.Table
	asked(t, &x, ask{1, "a", lock.S, true, 0}, ask{3, "b", lock.X, true, 0}, ask{2, "a", lock.X, false, 0}, ask{3, "a", lock.S, false, 0})
	same(t, "Stuck", x.Stuck())
	asked(t, &x, ask{4, "c", lock.X, true, 0}, ask{5, "d", lock.X, true, 0}, ask{4, "d", lock.X, false, 0}, ask{6, "a", lock.X, false, 0})
	same(t, "Stuck", x.Stuck())
	asked(t, &x, ask{5, "c", lock.X, false, 0}, ask{7, "d", lock.X, false, 0})
	same(t, "Stuck", x.Stuck(), 4, 5, 7)
}

func TestStuckByAHolderThatFits(t *testing.T) { // P12.4: a holder whose mode fits is not in the way, though it is stuck
	var x lock.Table
	asked(t, &x, ask{1, "a", lock.IS, true, 0}, ask{1, "b", lock.X, true, 0}, ask{2, "c", lock.X, true, 0}, ask{1, "c", lock.S, false, 0}, ask{2, "b", lock.S, false, 0},
		ask{3, "a", lock.IX, true, 0}, ask{4, "a", lock.S, false, 0})
	same(t, "Stuck", x.Stuck(), 1, 2) // 4 waits for 3 alone
	freed(t, &x, 3, 4)
	same(t, "Stuck", x.Stuck(), 1, 2)
	asked(t, &x, ask{5, "a", lock.X, false, 0})
	same(t, "Stuck", x.Stuck(), 1, 2, 5)
}

func TestStuckByMore(t *testing.T) { // P12.4: of two who have a name, and want more of it
	var x lock.Table
	asked(t, &x, ask{1, "a", lock.S, true, 0}, ask{2, "a", lock.S, true, 0}, ask{1, "a", lock.X, false, 0}, ask{3, "a", lock.IS, false, 0})
	same(t, "Stuck", x.Stuck()) // what it has itself is not in its way
	asked(t, &x, ask{2, "a", lock.IX, false, 0})
	same(t, "Stuck", x.Stuck(), 1, 2, 3)
	freed(t, &x, 1, 2)
	same(t, "Stuck", x.Stuck())
}

func TestStuckBehindMore(t *testing.T) { // P12.4: of one behind another that wants more of what it has
	var x lock.Table
	asked(t, &x, ask{1, "a", lock.IS, true, 0}, ask{2, "a", lock.IX, true, 0}, ask{3, "b", lock.X, true, 0}, ask{3, "a", lock.IS, true, 0}, ask{1, "a", lock.S, false, 0}, ask{4, "a", lock.IS, false, 0})
	same(t, "Stuck", x.Stuck()) // 1 waits for 2 alone
	asked(t, &x, ask{2, "b", lock.S, false, 0})
	same(t, "Stuck", x.Stuck()) // and that one for 3
	asked(t, &x, ask{3, "a", lock.IX, true, 0}, ask{3, "a", lock.X, false, 0})
	named(t, &x, "a", []int{1, 2, 3}, []int{1, 3, 4})
	same(t, "Stuck", x.Stuck(), 1, 2, 3, 4)
}

func TestStuckChangesNothing(t *testing.T) { // P12.4
	var x lock.Table
	asked(t, &x, ask{1, "a", lock.X, true, 0}, ask{2, "b", lock.X, true, 0}, ask{3, "b", lock.IS, false, 0}, ask{4, "c", lock.X, true, 0}, ask{5, "c", lock.X, false, 0}, ask{1, "b", lock.S, false, 0})
	for range 3 {
		same(t, "Stuck", x.Stuck())
	}
	asked(t, &x, ask{2, "a", lock.S, false, 0})
	for range 3 {
		same(t, "Stuck", x.Stuck(), 1, 2, 3)
	}
	named(t, &x, "a", []int{1}, []int{2})
	named(t, &x, "b", []int{2}, []int{3, 1})
	named(t, &x, "c", []int{4}, []int{5})
}
