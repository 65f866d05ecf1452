package log_test

import (
	"math"
	"slices"
	"testing"

	"quiltwork/api"
	"quiltwork/log"
	"quiltwork/named"
)

func TestNeeds(t *testing.T) { // P8.3
	l := of(t, some()...)
	for id, want := range map[int][]int{
		1: {3, 5, 6}, // 6 only by 5
		2: {4}, 3: nil, 4: nil, 5: {6}, 6: nil,
		0: nil, -1: nil, 7: nil, math.MinInt: nil, math.MaxInt: nil,
	} {
		if got := l.Needs(id); !slices.Equal(got, want) {
			t.Errorf("Needs(%d) = %v, not %v", id, got, want)
		}
	}
	held(t, l, some())
	l.Order(on(2, 1, 5, 6, 4, 3))
	if got := l.Needs(1); !slices.Equal(got, on(5, 6, 3)) { // in order
		t.Errorf("Needs(1) = %v", got)
	}
}

func TestTake(t *testing.T) { // P8.3, P8.4
	s := some()
	high := patch(5, nil, hunk("a", 7, "8", "")) // 5 ahead of 3
	for _, x := range []struct {
		id          int
		group, rest []named.Patch
	}{
		{1, []named.Patch{s[0], s[2], s[4], s[5]}, []named.Patch{s[1], s[3]}},
		{2, []named.Patch{s[1], s[3]}, []named.Patch{s[0], s[2], s[4], s[5]}},
		{3, []named.Patch{s[2]}, []named.Patch{s[0], s[1], s[3], high, s[5]}},
		{4, []named.Patch{s[3]}, []named.Patch{s[0], s[1], s[2], s[4], s[5]}},
		{5, []named.Patch{s[4], s[5]}, s[:4]},
		{6, []named.Patch{s[5]}, s[:5]},
	} {
		l := of(t, s...)
		needs := l.Needs(x.id)
		group, e := l.Take(x.id)
		if e != api.OK || !allAlike(group, x.group) || !slices.Equal(needs, ids(x.group)[1:]) {
			t.Errorf("Take(%d) = %v, %d, not %v; they were %v", x.id, group, e, x.group, needs)
		}
		held(t, l, x.rest)
		if again, e := l.Take(x.id); e != api.ErrLogId || len(again) != 0 {
			t.Errorf("Take(%d), once more, = %v, %d", x.id, again, e)
		}
		for _, p := range group {
			if e := l.Add(p); e != api.OK {
				t.Errorf("Add of %v, which was taken, tells %d", p, e)
			}
		}
		held(t, l, slices.Concat(x.rest, x.group))
		if was := of(t, s...); l.Tree().Text() != was.Tree().Text() || !log.Same(l, was) || !log.Same(was, l) {
			t.Errorf("taken, and added again, %d makes %v", x.id, l.All())
		}
	}
}

func TestTakeOfNone(t *testing.T) { // P8.3
	l := of(t, some()...)
	for _, id := range []int{math.MinInt, -1, 0, 7, named.Far, math.MaxInt} {
		if group, e := l.Take(id); e != api.ErrLogId || group != nil {
			t.Errorf("Take(%d) = %v, %d", id, group, e)
		}
		held(t, l, some())
	}
	// All go with one that all need.
	all := []named.Patch{some()[0], some()[2], some()[4]}
	l = of(t, all...)
	if group, e := l.Take(1); e != api.OK || !allAlike(group, all) {
		t.Errorf("Take(1) = %v, %d", group, e)
	}
	held(t, l, nil)
}

func TestOrderOfWrongNumbers(t *testing.T) { // P8.3
	l := of(t, some()...)
	for _, wrong := range [][]int{
		nil, {}, {1}, {1, 2, 3, 4, 5}, {2, 3, 4, 5, 6}, {6, 5, 4, 3, 2}, // too few
		{1, 2, 3, 4, 5, 6, 7}, {1, 2, 3, 4, 5, 6, 6}, {0, 1, 2, 3, 4, 5, 6}, // too many
		{1, 2, 3, 4, 5, 5}, {1, 1, 2, 3, 4, 5}, {6, 6, 6, 6, 6, 6}, {1, 2, 3, 3, 5, 6}, // twice
		{1, 2, 3, 4, 5, 7}, {0, 1, 2, 3, 4, 5}, {1, 2, -3, 4, 5, 6}, {7, 8, 9, 10, 11, 12}, {math.MinInt, 2, 3, 4, 5, math.MaxInt}, // not there
		{3, 1, 2, 4, 5, 7}, // of both errors the one named first
	} {
		was := slices.Clone(wrong)
		if e := l.Order(wrong); e != api.ErrArg {
			t.Errorf("Order(%v) tells %d", wrong, e)
		}
		if !slices.Equal(wrong, was) { // R5
			t.Errorf("Order changes %v to %v", was, wrong)
		}
		held(t, l, some())
	}
}

func TestOrder(t *testing.T) { // P8.3, P8.4
	s := some()
	high, low := patch(5, nil, hunk("a", 7, "8", "")), s[4]
	for _, x := range []struct {
		ids  []int
		e    api.Errno
		want []named.Patch
	}{
		{on(1, 2, 3, 4, 5, 6), api.OK, s},
		{on(2, 1, 4, 3, 5, 6), api.OK, []named.Patch{s[1], s[0], s[3], s[2], low, s[5]}},
		{on(1, 5, 6, 3, 2, 4), api.OK, []named.Patch{s[0], high, s[5], s[2], s[1], s[3]}},
		{on(2, 4, 1, 5, 3, 6), api.OK, []named.Patch{s[1], s[3], s[0], high, s[2], s[5]}},
		// Stuck at the first place, at the last one that can be, and between.
		{on(3, 1, 2, 4, 5, 6), api.ErrLogStuck, s},
		{on(4, 2, 1, 3, 5, 6), api.ErrLogStuck, s},
		{on(6, 5, 4, 3, 2, 1), api.ErrLogStuck, s},
		{on(1, 2, 3, 4, 6, 5), api.ErrLogStuck, s},
		{on(2, 1, 4, 3, 6, 5), api.ErrLogStuck, s},
		{on(1, 5, 3, 4, 2, 6), api.ErrLogStuck, s},
	} {
		l := of(t, s...)
		was := slices.Clone(x.ids)
		if e := l.Order(x.ids); e != x.e {
			t.Errorf("Order(%v) tells %d, not %d", x.ids, e, x.e)
		}
		held(t, l, x.want)
		if got := l.Tree().Text(); got != text(t, s) {
			t.Errorf("Order(%v) changes the tree to %q", x.ids, got)
		}
		if !slices.Equal(x.ids, was) { // R5
			t.Errorf("Order changes %v to %v", was, x.ids)
		}
		if e := l.Order(ids(s)); e != api.OK {
			t.Errorf("Order(%v) behind %v tells %d", ids(s), x.ids, e)
		}
		held(t, l, s)
	}
}

func TestSame(t *testing.T) { // P8.3
	l := of(t, some()...)
	turned := of(t, some()...)
	turned.Order(on(2, 4, 1, 5, 3, 6))
	one := log.New()
	one.Add(some()[0])
	for _, x := range []struct {
		a, b *log.Log
		is   bool
	}{
		{log.New(), log.New(), true},
		{l, l, true}, {l, of(t, some()...), true}, {l, l.Copy(), true},
		{l, turned, true}, {turned, turned, true},
		{one, log.New(), false}, {one, l, false}, {one, one.Copy(), true},
		{l, of(t, some()[:5]...), false},
	} {
		if log.Same(x.a, x.b) != x.is || log.Same(x.b, x.a) != x.is {
			t.Errorf("Same(%v, %v) = %v", x.a.All(), x.b.All(), !x.is)
		}
		if x.is && x.a.Tree().Text() != x.b.Tree().Text() { // P8.4
			t.Errorf("the trees of %v and %v are not the same", x.a.All(), x.b.All())
		}
	}
	// Neither is changed.
	held(t, l, some())
	if !slices.Equal(turned.Ids(), on(2, 4, 1, 5, 3, 6)) {
		t.Errorf("Same changes %v", turned.Ids())
	}
}

func TestSameOfLogsThatDiffer(t *testing.T) { // P8.3
	with := func(k int, change func(p *named.Patch)) *log.Log {
		s := some()
		change(&s[k])
		return of(t, s...)
	}
	l := of(t, some()...)
	turned := l.Copy()
	turned.Order(on(2, 1, 4, 5, 6, 3))
	for k, other := range []*log.Log{
		with(5, func(p *named.Patch) { p.Id = 7 }),
		with(5, func(p *named.Patch) { p.Note = "" }),
		with(2, func(p *named.Patch) { p.Note += " " }),
		with(5, func(p *named.Patch) { p.Deps = nil }),
		with(5, func(p *named.Patch) { p.Deps = on(1, 5) }),
		with(5, func(p *named.Patch) { p.L[0].Name = "e" }),
		with(3, func(p *named.Patch) { p.L[1].New[0] = "q" }),
		// The same tree, otherwise made.
		with(3, func(p *named.Patch) { p.L = append(p.L[:1], hunk("c", 0, "", "y"), hunk("c", 0, "y", "z")) }),
		with(5, func(p *named.Patch) { p.L = append(p.L, move("d", "e"), move("e", "d")) }),
		// The same numbers and the same tree, but not the same patches.
		of(t, patch(1, nil, add("b")), patch(2, nil, some()[0].L...), some()[2], patch(4, on(2), some()[3].L...), some()[4], some()[5]),
	} {
		for _, x := range []*log.Log{l, turned} {
			if log.Same(x, other) || log.Same(other, x) {
				t.Errorf("%d: %v and %v are told to be the same", k, x.All(), other.All())
			}
		}
	}
	// The same patches as they are told, which touch: of neither log the other one's order can be had.
	lines := patch(1, nil, add("a"), hunk("a", 0, "", "x x x x"))
	one := of(t, lines, patch(2, nil, hunk("a", 1, "x", "")), patch(3, nil, hunk("a", 1, "x", "")))
	two := of(t, lines, patch(3, nil, hunk("a", 1, "x", "")), patch(2, nil, hunk("a", 1, "x", "")))
	if log.Same(one, two) || log.Same(two, one) || one.Tree().Text() != two.Tree().Text() {
		t.Errorf("%v and %v are told to be the same", one.All(), two.All())
	}
	// The same patches as they are told, which in one order are others.
	one = of(t, lines, patch(2, nil, hunk("a", 0, "", "p")), patch(3, nil, hunk("a", 3, "x", "")))
	two = of(t, lines, patch(3, nil, hunk("a", 3, "x", "")), patch(2, nil, hunk("a", 0, "", "p")))
	if log.Same(one, two) || log.Same(two, one) {
		t.Errorf("%v and %v are told to be the same", one.All(), two.All())
	}
	two = of(t, lines, patch(3, nil, hunk("a", 2, "x", "")), patch(2, nil, hunk("a", 0, "", "p")))
	if !log.Same(one, two) || !log.Same(two, one) {
		t.Errorf("%v and %v are told not to be the same", one.All(), two.All())
	}
}

func TestCopy(t *testing.T) { // P8.1
	held(t, log.New().Copy(), nil)
	for _, change := range []func(l *log.Log){
		func(l *log.Log) { l.Add(patch(9, nil, add("e"), hunk("a", 0, "x", ""))) },
		func(l *log.Log) { l.Last(3) },
		func(l *log.Log) { l.Last(1) }, // stuck on its way
		func(l *log.Log) { l.Drop() },
		func(l *log.Log) { l.Drop(); l.Add(patch(6, nil, add("f"))) },
		func(l *log.Log) { l.Take(2) },
		func(l *log.Log) { l.Take(1); l.Take(2) },
		func(l *log.Log) { l.Order(on(2, 4, 1, 5, 3, 6)) },
		func(l *log.Log) { l.Order(on(1, 5, 3, 4, 2, 6)) }, // stuck on its way
	} {
		want := of(t, some()...)
		change(want)
		for _, later := range []bool{false, true} { // what is done to the copy, and to the other one
			l := of(t, some()...)
			c := l.Copy()
			held(t, c, some())
			if later {
				l, c = c, l
			}
			change(c)
			held(t, l, some())
			held(t, c, want.All())
			change(l)
			held(t, l, want.All())
			held(t, c, want.All())
		}
	}
}
