package lock

import (
	"math/rand"
	"testing"
)

// kept is how many names and owners a table keeps.
func kept(t *Table) int {
	return len(t.has) + len(t.queues) + len(t.waits)
}

func TestNothingIsKeptOfNobody(t *testing.T) { // what a table keeps is no more than what it tells of
	var x Table
	x.Ask(-1, "a", S)
	x.Ask(1, "a", -1)
	x.Free(1)
	if kept(&x) != 0 {
		t.Error("something is kept of calls that did nothing")
	}
	r := rand.New(rand.NewSource(1))
	for range 50 {
		for range 300 {
			x.Ask(r.Intn(9), string(rune('a'+r.Intn(26))), r.Intn(4))
			if r.Intn(20) == 0 {
				x.Free(r.Intn(9))
			}
		}
		for name, holders := range x.has {
			if len(holders) == 0 {
				t.Errorf("%q is kept, though nobody has it", name)
			}
		}
		for name, queue := range x.queues {
			if len(queue) == 0 {
				t.Errorf("the queue of %q is kept, though nobody is in it", name)
			}
		}
		for owner := range 9 {
			x.Free(owner)
		}
		if kept(&x) != 0 {
			t.Fatal("something is kept, though all are freed")
		}
	}
}
