package lock_test

import (
	"fmt"
	"math/rand"
	"slices"
	"testing"

	"quiltwork/lock"
)

// overwrite writes into a list, and into its room.
func overwrite(l []int) {
	l = l[:cap(l)]
	for k := range l {
		l[k] = -77
	}
}

var small = world{[]int{-1, 0, 1, 2, 3, 4, 5, 6}, []string{"", "a", "b", "c"}, []int{0, 1, 2, 3}}

// diced is a table behind some calls, and what it should be.
func diced(r *rand.Rand, w world, calls int) (*lock.Table, rule) {
	x, q := new(lock.Table), rule{}
	for range calls {
		c := w.dice(r)
		c.on(x)
		_, q = q.does(c)
	}
	return x, q
}

func TestToldIsTheCallers(t *testing.T) { // R6
	r := rand.New(rand.NewSource(1))
	for range 300 {
		x, q := diced(r, small, r.Intn(60))
		for _, name := range small.names {
			overwrite(x.Holders(name))
			overwrite(x.Queue(name))
		}
		overwrite(x.Stuck())
		q.hold(t, x, small, "overwritten")
		c := call{claim: claim{owner: r.Intn(7)}, free: true}
		_, q = q.does(c)
		overwrite(c.on(x).got)
		q.hold(t, x, small, "overwritten")
		for _, name := range small.names { // what stands behind them is not theirs as well
			_ = append(x.Holders(name), -77, -77)
			_ = append(x.Queue(name), -77, -77)
		}
		for range 20 {
			c := small.dice(r)
			_, next := q.does(c)
			c.on(x)
			next.hold(t, x, small, c)
			q = next
		}
	}
}

func TestToldStays(t *testing.T) { // R6: what was told is as it was, whatever comes behind it
	r := rand.New(rand.NewSource(2))
	for range 200 {
		x, _ := diced(r, small, 40)
		var l, was [][]int
		keep := func(m []int) {
			l, was = append(l, m), append(was, slices.Clone(m))
		}
		for range 20 {
			for _, name := range small.names {
				keep(x.Holders(name))
				keep(x.Queue(name))
			}
			keep(x.Stuck())
			c := small.dice(r)
			keep(c.on(x).got)
			for k := range l {
				if !slices.Equal(l[k], was[k]) {
					t.Fatalf("behind %v: what was told was %v, and is %v", c, was[k], l[k])
				}
			}
		}
	}
}

func TestCopyIsItsOwn(t *testing.T) { // P12.1: neither changes by what is done to the other one
	r := rand.New(rand.NewSource(3))
	for range 200 {
		x, q := diced(r, small, r.Intn(60))
		y, p := x.Copy(), q
		p.hold(t, y, small, "Copy")
		for range 30 {
			c := small.dice(r)
			if r.Intn(2) == 0 {
				_, q = q.does(c)
				c.on(x)
			} else {
				_, p = p.does(c)
				c.on(y)
			}
			q.hold(t, x, small, c)
			p.hold(t, y, small, c)
		}
	}
}

func TestCopyOfEach(t *testing.T) { // P12.1: holders, queues, and who waits for what, by each call that changes these
	begin := func() *lock.Table {
		x := new(lock.Table)
		asked(t, x, ask{1, "a", lock.IS, true, 0}, ask{2, "a", lock.S, true, 0}, ask{3, "a", lock.X, false, 0}, ask{4, "a", lock.IS, false, 0})
		return x
	}
	look := func(x *lock.Table) string {
		s := fmt.Sprint(x.Holders("a"), x.Queue("a"), x.Holders("b"), x.Queue("b"), x.Stuck())
		for owner := range 7 {
			m, is := x.Has(owner, "a")
			name, mode, waits := x.Waits(owner)
			s += fmt.Sprint(" ", m, is, name, mode, waits)
		}
		return s
	}
	was := look(begin())
	for _, f := range []func(x *lock.Table){
		func(x *lock.Table) { x.Ask(1, "a", lock.S) },  // a greater mode
		func(x *lock.Table) { x.Ask(5, "b", lock.S) },  // a new name
		func(x *lock.Table) { x.Ask(5, "a", lock.S) },  // behind the queue
		func(x *lock.Table) { x.Ask(2, "a", lock.IX) }, // ahead of it
		func(x *lock.Table) { x.Free(1) },
		func(x *lock.Table) { x.Free(2); x.Free(1) },
		func(x *lock.Table) { x.Free(3) }, // the first one of the queue
		func(x *lock.Table) { x.Free(4) }, // the last one
		func(x *lock.Table) { x.Free(1); x.Free(2); x.Free(3); x.Free(4) },
	} {
		x := begin()
		y := x.Copy()
		f(y)
		if look(x) != was {
			t.Errorf("the table is changed by what is done to its copy: %s, want %s", look(x), was)
		}
		if look(y) == was {
			t.Errorf("nothing is done to the copy: %s", look(y))
		}
		z := begin()
		u := z.Copy()
		f(z)
		if look(u) != was {
			t.Errorf("the copy is changed by what is done to the table: %s, want %s", look(u), was)
		}
		if look(y) != look(z) {
			t.Errorf("a copy does otherwise: %s, want %s", look(y), look(z))
		}
	}
}

func TestSameCallsTellTheSame(t *testing.T) { // R7: of many names, and owners, which a map has in ever another order
	var first string
	for range 40 {
		var x lock.Table
		var all []any
		for k := range 30 {
			name := string(rune('A' + k))
			x.Ask(100, name, k%4)
			x.Ask((7*k)%30, name, lock.X)
			x.Ask(30+(11*k)%30, name, lock.IS)
			x.Ask(60+k%20, name, lock.S)
			all = append(all, x.Holders(name), x.Queue(name))
		}
		x.Ask(101, "~", lock.X)
		x.Ask(102, "+", lock.X)
		x.Ask(101, "+", lock.S)
		x.Ask(102, "~", lock.S)
		all = append(all, x.Stuck())
		c := x.Copy()
		for _, y := range []*lock.Table{&x, c} {
			got := y.Free(100)
			if !slices.IsSorted(got) || len(got) < 30 {
				t.Fatalf("Free tells %v", got)
			}
			all = append(all, got, y.Stuck())
			for k := range 30 {
				name := string(rune('A' + k))
				all = append(all, y.Holders(name), y.Queue(name), y.Free(k))
			}
		}
		s := fmt.Sprint(all...)
		if first == "" {
			first = s
		}
		if s != first {
			t.Fatalf("the same calls tell %s, and %s", first, s)
		}
	}
}

func TestManyOwners(t *testing.T) { // each call ends, of a long queue and many names, too
	var x lock.Table
	const n = 2000
	x.Ask(n, "a", lock.X)
	for owner := range n {
		asked(t, &x, ask{owner, string([]byte{'b', byte(owner), byte(owner >> 8)}), lock.X, true, 0}, ask{owner, "a", lock.IS, false, 0})
	}
	same(t, "Stuck", x.Stuck())
	if l := x.Queue("a"); len(l) != n || !slices.IsSorted(l) {
		t.Errorf("%d wait", len(l))
	}
	if l := x.Free(n); len(l) != n || !slices.IsSorted(l) {
		t.Errorf("%d got something", len(l))
	}
	if l := x.Holders("a"); len(l) != n || !slices.IsSorted(l) {
		t.Errorf("%d have it", len(l))
	}
}
