package log_test

import (
	"fmt"
	"slices"
	"testing"

	"quiltwork/api"
	"quiltwork/log"
	"quiltwork/named"
	"quiltwork/prim"
	"quiltwork/swap"
	"quiltwork/tree"
)

// plain is a log in another way: patches alone, whose tree is made anew each time, and which are brought about by swaps of two prims. Its calls tell a plain of its own, and change none.
type plain []named.Patch

func (l plain) place(id int) int {
	return slices.IndexFunc(l, func(p named.Patch) bool { return p.Id == id })
}

// fits tells whether the rows can be applied, one behind the other, to an empty tree.
func (l plain) fits() api.Errno {
	x := tree.New()
	for _, p := range l {
		for _, q := range p.L {
			if e := prim.Apply(x, q); e != api.OK {
				return e
			}
		}
	}
	return api.OK
}

func (l plain) add(p named.Patch) (plain, api.Errno) {
	if !named.Right(p) {
		return l, api.ErrNamedForm
	}
	if l.place(p.Id) >= 0 {
		return l, api.ErrLogTwice
	}
	for _, id := range p.Deps {
		if l.place(id) < 0 {
			return l, api.ErrLogDeps
		}
	}
	longer := append(slices.Clone(l), p)
	if e := longer.fits(); e != api.OK {
		return l, e
	}
	return longer, api.OK
}

// swapped is the plain with the patch at a place swapped with the one behind it.
func (l plain) swapped(at int) (plain, bool) {
	p, q := copied(l[at]), copied(l[at+1])
	if slices.Contains(p.Deps, q.Id) || slices.Contains(q.Deps, p.Id) {
		return l, false
	}
	is := true
	for k := len(p.L) - 1; k >= 0; k-- {
		for i := range q.L {
			q.L[i], p.L[k], is = swap.Swap(p.L[k], q.L[i])
			if !is {
				return l, false
			}
		}
	}
	l = slices.Clone(l)
	l[at], l[at+1] = q, p
	return l, true
}

func (l plain) last(id int) (plain, api.Errno) {
	at, to, is := l.place(id), l, true
	if at < 0 {
		return l, api.ErrLogId
	}
	for ; at < len(l)-1; at++ {
		if to, is = to.swapped(at); !is {
			return l, api.ErrLogStuck
		}
	}
	return to, api.OK
}

// ahead is the plain with the patch at a place brought to another place ahead of it.
func (l plain) ahead(from, to int) (plain, bool) {
	out, is := l, true
	for ; from > to; from-- {
		if out, is = out.swapped(from - 1); !is {
			return l, false
		}
	}
	return out, true
}

func (l plain) order(ids []int) (plain, api.Errno) {
	counts := map[int]int{}
	for _, id := range ids {
		counts[id]++
	}
	for _, p := range l {
		if len(ids) != len(l) || counts[p.Id] != 1 {
			return l, api.ErrArg
		}
	}
	if len(ids) != len(l) {
		return l, api.ErrArg
	}
	to, is := l, true
	for k, id := range ids {
		if to, is = to.ahead(to.place(id), k); !is {
			return l, api.ErrLogStuck
		}
	}
	return to, api.OK
}

// take is the plain without the group of that patch, and the group.
func (l plain) take(id int) (plain, []named.Patch, api.Errno) {
	at := l.place(id)
	if at < 0 {
		return l, nil, api.ErrLogId
	}
	to, first := l, at // those from first on to k are the group
	for k := at + 1; k < len(l); k++ {
		next, is := to.ahead(k, first)
		if is {
			to = next
			first++
		}
	}
	return to[:first], to[first:], api.OK
}

func samePlain(a, b plain) bool {
	c, e := b.order(ids(a))
	return e == api.OK && allAlike(a, c)
}

// orders are all orders of the numbers.
func orders(ids []int) [][]int {
	if len(ids) == 0 {
		return [][]int{nil}
	}
	var out [][]int
	for k, id := range ids {
		for _, l := range orders(slices.Concat(ids[:k], ids[k+1:])) {
			out = append(out, append([]int{id}, l...))
		}
	}
	return out
}

// small are patches of which logs are made, some of one number, behind the first two.
func small() []named.Patch {
	return []named.Patch{
		patch(1, nil, add("a"), hunk("a", 0, "", "1 2 3 4 5 6 7 8 9")),
		patch(2, nil, add("b")),
		patch(3, nil, hunk("a", 0, "1", "x x")),
		patch(4, on(3), hunk("b", 0, "", "y")),
		patch(5, nil, hunk("a", 6, "7", ""), hunk("a", 3, "", "z")),
		patch(5, nil, move("a", "c")),
		patch(6, nil, hunk("c", 2, "3", "q r"), add("e")),
		patch(7, on(2), rm("e")),
		patch(8, nil, move("b", "d"), hunk("d", 0, "", "s")),
		patch(9, on(4), hunk("a", 9, "9", ""), hunk("a", 0, "", "v")),
		patch(10, nil, add("f"), hunk("a", 4, "5", "w w")),
	}
}

// logs are all that can be made of the small patches by so many Adds behind the first two, and hold each Add against the rule.
func logs(t *testing.T, n int) []plain {
	first := plain(small()[:2])
	all, longer := []plain{first}, []plain{first}
	for range n {
		var next []plain
		for _, l := range longer {
			for _, p := range small() {
				to, want := l.add(p)
				x := of(t, l...)
				if e := x.Add(p); e != want {
					t.Fatalf("Add(%v) to %v tells %d, not %d", p, ids(l), e, want)
				}
				held(t, x, to)
				if want == api.OK {
					next = append(next, to)
				}
			}
		}
		all, longer = append(all, next...), next
	}
	return all
}

func TestAllByRule(t *testing.T) { // P8.1 to P8.4
	tells := map[api.Errno]int{}
	for _, l := range logs(t, 4) {
		x, was := of(t, l...), text(t, l)
		for id := range 12 {
			want, e := l.last(id)
			c := x.Copy()
			if got := c.Last(id); got != e {
				t.Fatalf("Last(%d) of %v tells %d, not %d", id, l, got, e)
			}
			held(t, c, want)
			if c.Tree().Text() != was {
				t.Fatalf("Last(%d) of %v changes the tree", id, l)
			}
			rest, group, e := l.take(id)
			tells[e]++
			c = x.Copy()
			needs := c.Needs(id)
			if got, err := c.Take(id); err != e || !allAlike(got, group) || !slices.Equal(needs, ids(group)[min(1, len(group)):]) {
				t.Fatalf("Take(%d) of %v = %v, %d, not %v, %d; Needs = %v", id, l, got, err, group, e, needs)
			}
			held(t, c, rest)
			for _, p := range group { // P8.4
				if err := c.Add(p); err != api.OK {
					t.Fatalf("%v, taken from %v, does not fit: %d", p, l, err)
				}
			}
			if c.Tree().Text() != was {
				t.Fatalf("Take(%d) of %v, added again, changes the tree", id, l)
			}
		}
		for _, order := range orders(ids(l)) {
			want, e := l.order(order)
			tells[e]++
			c := x.Copy()
			if got := c.Order(order); got != e {
				t.Fatalf("Order(%v) of %v tells %d, not %d", order, l, got, e)
			}
			held(t, c, want)
			if c.Tree().Text() != was || !log.Same(x, c) || !log.Same(c, x) {
				t.Fatalf("Order(%v) of %v makes it %v", order, l, c.All())
			}
		}
	}
	if tells[api.OK] < 1500 || tells[api.ErrLogStuck] < 10000 || tells[api.ErrLogId] < 300 {
		t.Errorf("so often each was told: %v", tells)
	}
}

func TestSameByRule(t *testing.T) { // P8.3, P8.4
	same, all := 0, logs(t, 3)
	for _, a := range all {
		x := of(t, a...)
		for _, b := range all {
			if len(a) != len(b) {
				continue
			}
			y := of(t, b...)
			want := samePlain(a, b)
			if log.Same(x, y) != want || log.Same(y, x) != want {
				t.Fatalf("Same(%v, %v) = %v", a, b, !want)
			}
			if want && x.Tree().Text() != y.Tree().Text() {
				t.Fatalf("%v and %v are the same, but not their trees", a, b)
			}
			if want && !slices.Equal(ids(a), ids(b)) {
				same++
			}
		}
	}
	if same < 30 {
		t.Errorf("%d logs were the same in another order", same)
	}
}

// dice picks numbers, always the same ones: each is made of the one ahead of it.
type dice uint64

func (d *dice) pick(n int) int {
	*d = *d*6364136223846793005 + 1442695040888963407
	return int(uint64(*d) >> 33 % uint64(n))
}

// fitting is a prim that fits the tree, of four names.
func (d *dice) fitting(x *tree.Tree) prim.Prim {
	names := []string{"a", "b", "c", "d"}
	for {
		name, to := names[d.pick(4)], names[d.pick(4)]
		l, is := x.Get(name)
		at := d.pick(len(l) + 1)
		end := min(at+d.pick(3), len(l))
		p := prim.Prim{Kind: prim.Hunk, Name: name, At: at, Old: l[at:end]}
		for range d.pick(4) {
			p.New = append(p.New, fmt.Sprint("l", d.pick(4)))
		}
		switch kind := d.pick(12); {
		case !is:
			p = add(name)
		case kind == 0:
			p = move(name, to)
		case kind == 1:
			p = rm(name)
		}
		if prim.Apply(x.Copy(), p) == api.OK {
			return p
		}
	}
}

// patch is one that mostly can be added to the log: its number may be there, its dependence not, and its last prim may not fit.
func (d *dice) patch(l plain) named.Patch {
	x := tree.New()
	for _, p := range l {
		for _, q := range p.L {
			prim.Apply(x, q)
		}
	}
	p := patch(1+d.pick(40), nil)
	for range 1 + d.pick(3) {
		q := d.fitting(x)
		prim.Apply(x, q)
		p.L = append(p.L, q)
	}
	switch d.pick(12) {
	case 0:
		p.Deps = on(1 + d.pick(40))
	case 1:
		p.L = append(p.L, hunk("a", d.pick(8), "l0 l1", "l1"))
	}
	if len(l) > 0 && d.pick(4) == 0 {
		p.Deps = on(l[d.pick(len(l))].Id)
	}
	return p
}

// shuffled is the numbers of the log with some pairs in another order.
func (d *dice) shuffled(l plain) []int {
	out := ids(l)
	for range d.pick(4) {
		if len(out) > 1 {
			k := d.pick(len(out) - 1)
			out[k], out[k+1] = out[k+1], out[k]
		}
	}
	return out
}

// step does one call to both, holds what it tells against the rule, and tells what the plain is then.
func (d *dice) step(t *testing.T, x *log.Log, l plain) (plain, api.Errno) {
	id := 1 + d.pick(40)
	if len(l) > 0 && d.pick(3) > 0 {
		id = l[d.pick(len(l))].Id
	}
	to, want, got := l, api.OK, api.OK
	switch d.pick(10) {
	case 0, 1:
		to, want = l.last(id)
		got = x.Last(id)
	case 2, 3:
		order := d.shuffled(l)
		to, want = l.order(order)
		got = x.Order(order)
	case 4:
		p, is := x.Drop()
		if is != (len(l) > 0) || is && !alike(p, l[len(l)-1]) || !is && !zero(p) {
			t.Fatalf("Drop of %v = %v, %v", l, p, is)
		}
		to = l[:max(0, len(l)-1)]
	case 5:
		var group, told []named.Patch
		to, group, want = l.take(id)
		told, got = x.Take(id)
		if !allAlike(told, group) {
			t.Fatalf("Take(%d) of %v = %v, not %v", id, l, told, group)
		}
		if d.pick(2) == 0 { // P8.4
			for _, p := range told {
				to = append(slices.Clone(to), p)
				got = max(got, x.Add(p))
			}
		}
	default:
		p := d.patch(l)
		to, want = l.add(p)
		got = x.Add(p)
	}
	if got != want {
		t.Fatalf("of %v %d is told, not %d", l, got, want)
	}
	return to, want
}

func TestCallsByDice(t *testing.T) { // P8.1 to P8.4
	tells := map[api.Errno]int{}
	for seed := range 200 {
		d, x, l := dice(seed), log.New(), plain(nil)
		for range 100 {
			left, was := x, copiedAll(l)
			if d.pick(8) == 0 { // on it goes with a copy, and the other one stays
				x = left.Copy()
			}
			to, e := d.step(t, x, l)
			tells[e]++
			held(t, x, to)
			if left != x {
				held(t, left, was)
			}
			l = to
		}
	}
	for _, e := range []api.Errno{api.OK, api.ErrPrimFits, api.ErrLogTwice, api.ErrLogId, api.ErrLogDeps, api.ErrLogStuck} {
		if tells[e] < 50 {
			t.Errorf("so often each was told: %v", tells)
		}
	}
}
