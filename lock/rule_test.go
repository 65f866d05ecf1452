package lock_test

import (
	"fmt"
	"math/rand"
	"slices"
	"strings"
	"testing"

	"quiltwork/api"
	"quiltwork/lock"
)

// claim is a name that an owner has, or for which it waits, in a mode.
type claim struct {
	owner int
	name  string
	mode  int
}

// rule is a table by the chapter's words. Its calls tell another one, and change none.
type rule struct {
	held    []claim // rising by name, and then by owner
	waiting []claim // rising by name, and then as they stand in its queue
}

// call is Ask of a claim; or, where free is set, Free of its owner.
type call struct {
	claim
	free bool
}

func (c call) String() string {
	if c.free {
		return fmt.Sprintf("Free %d", c.owner)
	}
	return fmt.Sprintf("Ask %d %q %d", c.owner, c.name, c.mode)
}

// told is what a call tells: of Ask is and e, of Free got.
type told struct {
	is  bool
	e   api.Errno
	got []int
}

func (a told) same(b told) bool {
	return a.is == b.is && a.e == b.e && slices.Equal(a.got, b.got)
}

// on makes the call of a table.
func (c call) on(x *lock.Table) told {
	if c.free {
		return told{got: x.Free(c.owner)}
	}
	is, e := x.Ask(c.owner, c.name, c.mode)
	return told{is: is, e: e}
}

// ruleFits is which modes fit, by the chapter's words.
func ruleFits(a, b int) bool {
	switch a {
	case lock.IS:
		return b == lock.IS || b == lock.IX || b == lock.S
	case lock.IX:
		return b == lock.IS || b == lock.IX
	case lock.S:
		return b == lock.IS || b == lock.S
	}
	return false
}

// ruleBoth is Both of two modes, by the chapter's words.
func ruleBoth(a, b int) int {
	low, high := min(a, b), max(a, b)
	if low == lock.IX && high == lock.S {
		return lock.X
	}
	return high
}

// of are the claims of l on a name.
func of(l []claim, name string) []claim {
	var m []claim
	for _, c := range l {
		if c.name == name {
			m = append(m, c)
		}
	}
	return m
}

// by is the first claim of l by an owner, and whether there is one.
func by(l []claim, owner int) (claim, bool) {
	for _, c := range l {
		if c.owner == owner {
			return c, true
		}
	}
	return claim{}, false
}

// without are the claims of l but those by an owner.
func without(l []claim, owner int) []claim {
	var m []claim
	for _, c := range l {
		if c.owner != owner {
			m = append(m, c)
		}
	}
	return m
}

func owners(l []claim) []int {
	var m []int
	for _, c := range l {
		m = append(m, c.owner)
	}
	return m
}

// fits tells whether a claim's mode fits all other holders' ones.
func (q rule) fits(c claim) bool {
	for _, h := range of(q.held, c.name) {
		if h.owner != c.owner && !ruleFits(h.mode, c.mode) {
			return false
		}
	}
	return true
}

// has is q where a claim is held, in the place of what its owner had of the name.
func (q rule) has(c claim) rule {
	l := []claim{c}
	for _, h := range q.held {
		if h.owner != c.owner || h.name != c.name {
			l = append(l, h)
		}
	}
	slices.SortFunc(l, func(a, b claim) int {
		if a.name != b.name {
			return strings.Compare(a.name, b.name)
		}
		return a.owner - b.owner
	})
	q.held = l
	return q
}

// queued is q where a claim waits.
func (q rule) queued(c claim) rule {
	var ahead, have, others, behind []claim
	for _, w := range q.waiting {
		_, has := by(of(q.held, c.name), w.owner)
		switch {
		case w.name < c.name:
			ahead = append(ahead, w)
		case w.name > c.name:
			behind = append(behind, w)
		case has:
			have = append(have, w)
		default:
			others = append(others, w)
		}
	}
	if _, has := by(of(q.held, c.name), c.owner); has {
		have = append(have, c)
	} else {
		others = append(others, c)
	}
	q.waiting = slices.Concat(ahead, have, others, behind)
	return q
}

// does is what a call tells, and what is then.
func (q rule) does(c call) (told, rule) {
	if c.free {
		return q.free(c.owner)
	}
	if c.owner < 0 || c.mode < 0 || c.mode > 3 {
		return told{e: 1}, q
	}
	if _, waits := by(q.waiting, c.owner); waits {
		return told{e: 120}, q
	}
	wants := c.claim
	had, has := by(of(q.held, c.name), c.owner)
	if has {
		wants.mode = ruleBoth(had.mode, c.mode)
	}
	if has && had.mode == wants.mode {
		return told{is: true}, q
	}
	if q.fits(wants) && (has || len(of(q.waiting, c.name)) == 0) {
		return told{is: true}, q.has(wants)
	}
	return told{}, q.queued(wants)
}

func (q rule) free(owner int) (told, rule) {
	q.held, q.waiting = without(q.held, owner), without(q.waiting, owner)
	var got []int
	for _, name := range q.names() {
		for l := of(q.waiting, name); len(l) > 0 && q.fits(l[0]); l = l[1:] {
			q = q.has(l[0])
			q.waiting = without(q.waiting, l[0].owner)
			got = append(got, l[0].owner)
		}
	}
	slices.Sort(got)
	return told{got: slices.Compact(got)}, q
}

// names are those for which somebody waits, rising.
func (q rule) names() []string {
	var l []string
	for _, c := range q.waiting {
		l = append(l, c.name)
	}
	slices.Sort(l)
	return slices.Compact(l)
}

// inTheWay are those who stand in the way of the k-th one that waits.
func (q rule) inTheWay(k int) []int {
	w := q.waiting[k]
	l := owners(of(q.waiting[:k], w.name))
	for _, h := range of(q.held, w.name) {
		if h.owner != w.owner && !ruleFits(h.mode, w.mode) {
			l = append(l, h.owner)
		}
	}
	return l
}

// stuck are those who wait but those who wait only for owners that do not wait, or for such.
func (q rule) stuck() []int {
	l := owners(q.waiting)
	for again := true; again; {
		again = false
		for k, w := range q.waiting {
			at := slices.Index(l, w.owner)
			if at >= 0 && !slices.ContainsFunc(q.inTheWay(k), func(o int) bool { return slices.Contains(l, o) }) {
				l, again = slices.Delete(l, at, at+1), true
			}
		}
	}
	slices.Sort(l)
	return l
}

func (q rule) String() string {
	return fmt.Sprintf("%v/%v", q.held, q.waiting)
}

// key tells rules of a small world apart.
func (q rule) key() string {
	b := []byte{byte(len(q.held))}
	for _, c := range slices.Concat(q.held, q.waiting) {
		b = append(b, byte(c.owner), byte(c.mode), byte(len(c.name)))
		b = append(b, c.name...)
	}
	return string(b)
}

// world is what owners, names and modes there are.
type world struct {
	owners []int
	names  []string
	modes  []int
}

// calls are all that there are in a world.
func (w world) calls() []call {
	var l []call
	for _, owner := range w.owners {
		l = append(l, call{claim: claim{owner: owner}, free: true})
		for _, name := range w.names {
			for _, mode := range w.modes {
				l = append(l, call{claim: claim{owner, name, mode}})
			}
		}
	}
	return l
}

// hold holds all that a table tells against q.
func (q rule) hold(t *testing.T, x *lock.Table, w world, behind any) {
	t.Helper()
	for _, name := range w.names {
		held, waiting := of(q.held, name), of(q.waiting, name)
		if l := x.Holders(name); !slices.Equal(l, owners(held)) {
			t.Fatalf("behind %v: %q is held by %v, want %v", behind, name, l, owners(held))
		}
		if l := x.Queue(name); !slices.Equal(l, owners(waiting)) {
			t.Fatalf("behind %v: for %q wait %v, want %v", behind, name, l, owners(waiting))
		}
		for _, owner := range w.owners {
			c, has := by(held, owner)
			if mode, is := x.Has(owner, name); mode != c.mode || is != has {
				t.Fatalf("behind %v: %d has %q: %d, %v; want %d, %v", behind, owner, name, mode, is, c.mode, has)
			}
		}
	}
	for _, owner := range w.owners {
		c, waits := by(q.waiting, owner)
		if name, mode, is := x.Waits(owner); name != c.name || mode != c.mode || is != waits {
			t.Fatalf("behind %v: %d waits for %q in %d, %v; want %q, %d, %v", behind, owner, name, mode, is, c.name, c.mode, waits)
		}
	}
	if l := x.Stuck(); !slices.Equal(l, q.stuck()) {
		t.Fatalf("behind %v: stuck are %v, want %v", behind, l, q.stuck())
	}
}

// follows holds what a table tells against what follows (P12.5).
func follows(t *testing.T, x *lock.Table, w world, behind any) {
	t.Helper()
	for _, name := range w.names {
		holders := x.Holders(name)
		for _, a := range holders {
			for _, b := range holders {
				m, _ := x.Has(a, name)
				n, _ := x.Has(b, name)
				if a != b && !lock.Fits(m, n) {
					t.Fatalf("behind %v: %d has %q in %d, and %d in %d", behind, a, name, m, b, n)
				}
			}
		}
		queue := x.Queue(name)
		if len(queue) == 0 {
			continue
		}
		_, mode, _ := x.Waits(queue[0])
		if !slices.ContainsFunc(holders, func(h int) bool {
			m, _ := x.Has(h, name)
			return h != queue[0] && !lock.Fits(mode, m)
		}) {
			t.Fatalf("behind %v: the first one that waits for %q, %d, waits for nothing", behind, name, queue[0])
		}
	}
}

// spot is a table, and what it should be.
type spot struct {
	x *lock.Table
	q rule
}

// reached has look see all tables that calls of a world lead to, each once, from a zero one on.
func reached(w world, may func(q rule, c call) bool, look func(s spot, c call, next spot, is told)) int {
	seen := map[string]bool{rule{}.key(): true}
	work := []spot{{new(lock.Table), rule{}}}
	calls := w.calls()
	for len(work) > 0 {
		s := work[0]
		work = work[1:]
		for _, c := range calls {
			if !may(s.q, c) {
				continue
			}
			x := s.x.Copy()
			is := c.on(x)
			_, q := s.q.does(c)
			next := spot{x, q}
			look(s, c, next, is)
			if k := q.key(); !seen[k] {
				seen[k] = true
				work = append(work, next)
			}
		}
	}
	return len(seen)
}

func all(rule, call) bool { return true }

func TestAllTables(t *testing.T) { // P12.1 to P12.5: each call of each table that calls lead to, in small worlds
	for _, w := range []world{
		{[]int{0, 1, 2}, []string{"a"}, []int{0, 1, 2, 3}},
		{[]int{0, 1, 2, 3}, []string{"a"}, []int{0, 1, 2, 3}},
		{[]int{0, 1}, []string{"", "b"}, []int{0, 1, 2, 3}},
		{[]int{-1, 0, 1}, []string{"a", "b"}, []int{-1, 0, 3, 4}},
		{[]int{0, 1, 2}, []string{"a", "b"}, []int{1, 2}},
		{[]int{0, 1, 2}, []string{"a", "b"}, []int{0, 3}},
		{[]int{0, 1, 2}, []string{"a", "b", "c"}, []int{3}},
		{[]int{0, 1, 2, 3}, []string{"a", "b"}, []int{3}},
	} {
		calls := w.calls()
		count := reached(w, all, func(s spot, c call, next spot, is told) {
			if want, _ := s.q.does(c); !is.same(want) {
				t.Fatalf("%v of %v tells %v, want %v", c, s.q, is, want)
			}
			behind := []any{c, "of", s.q}
			next.q.hold(t, next.x, w, behind)
			follows(t, next.x, w, behind)
			if c == calls[len(calls)-1] { // the table whose copies were called is as it was
				s.q.hold(t, s.x, w, "all calls of its copies")
			}
		})
		t.Logf("%v: %d tables", w, count)
	}
}

// inOrder tells whether a call is by an owner's rule: it asks for a name behind all that it has; each name is asked for once, so the mode is the greatest that it will want.
func inOrder(q rule, c call) bool {
	for _, h := range q.held {
		if !c.free && h.owner == c.owner && h.name >= c.name {
			return false
		}
	}
	return true
}

func TestRisingIsNeverStuck(t *testing.T) { // P12.5: in each table that such calls lead to
	for _, w := range []world{
		{[]int{0, 1, 2}, []string{"", "a"}, []int{0, 1, 2, 3}},
		{[]int{0, 1, 2}, []string{"a", "b", "c"}, []int{2, 3}},
		{[]int{0, 1, 2, 3}, []string{"a", "b"}, []int{1, 3}},
	} {
		waited := 0
		count := reached(w, inOrder, func(s spot, c call, next spot, is told) {
			if l := next.x.Stuck(); len(l) != 0 {
				t.Fatalf("%v of %v: stuck are %v", c, s.q, l)
			}
			if !is.is && is.e == api.OK && !c.free {
				waited++
			}
		})
		if waited == 0 {
			t.Error("nobody waited")
		}
		t.Logf("%v: %d tables", w, count)
	}
}

// dice is a call of a world.
func (w world) dice(r *rand.Rand) call {
	return call{claim{w.owners[r.Intn(len(w.owners))], w.names[r.Intn(len(w.names))], w.modes[r.Intn(len(w.modes))]}, r.Intn(6) == 0}
}

func TestDice(t *testing.T) { // P12.1 to P12.5: long rows of calls, of many owners and names
	for seed := range int64(60) {
		r := rand.New(rand.NewSource(seed))
		w := world{owners: []int{-1, 0, 1, 2, 3, 1 << 40}, names: []string{"", "a", "b", "~"}, modes: []int{0, 0, 1, 1, 2, 2, 3}}
		if seed%2 == 0 {
			w.names = append(w.names, "aa", "c", "d", "e", "f", "\x00", "\xff")
		}
		if seed%3 == 0 {
			w.owners = append(w.owners, 4, 5, 6, 7, 8, 9, 10)
		}
		if seed%5 == 0 {
			w.modes = append(w.modes, 4, -1)
		}
		x, q := new(lock.Table), rule{}
		for k := range 400 {
			c := w.dice(r)
			is := c.on(x)
			want, next := q.does(c)
			if !is.same(want) {
				t.Fatalf("seed %d, call %d: %v of %v tells %v, want %v", seed, k, c, q, is, want)
			}
			q = next
			q.hold(t, x, w, c)
			follows(t, x, w, c)
			if r.Intn(50) == 0 {
				x = x.Copy()
			}
		}
	}
}

func TestDiceInOrder(t *testing.T) { // P12.5: who asks for names in rising order is never stuck, and gets all of them in the end
	for seed := range int64(200) {
		r := rand.New(rand.NewSource(seed))
		names := []string{"", "a", "b", "c", "d", "~"}
		x, left := new(lock.Table), map[int][]claim{}
		for owner := range 2 + r.Intn(7) {
			for _, name := range names {
				if r.Intn(2) == 0 {
					left[owner] = append(left[owner], claim{owner, name, r.Intn(4)})
				}
			}
		}
		for steps := 0; len(left) > 0; steps++ {
			if steps > 10000 {
				t.Fatalf("seed %d: %v wait for ever", seed, left)
			}
			owner := r.Intn(8)
			if _, _, waits := x.Waits(owner); waits {
				continue
			}
			if l := left[owner]; len(l) > 0 {
				x.Ask(owner, l[0].name, l[0].mode)
				left[owner] = l[1:]
			} else {
				x.Free(owner)
				delete(left, owner)
			}
			if l := x.Stuck(); len(l) != 0 {
				t.Fatalf("seed %d: stuck are %v", seed, l)
			}
		}
	}
}
