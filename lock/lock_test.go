package lock_test

import (
	"math"
	"slices"
	"testing"

	"quiltwork/api"
	"quiltwork/lock"
)

// ask is one call of Ask, and what it should tell.
type ask struct {
	owner int
	name  string
	mode  int
	is    bool
	e     api.Errno
}

// asked has a table take the calls.
func asked(t *testing.T, x *lock.Table, l ...ask) {
	t.Helper()
	for k, a := range l {
		if is, e := x.Ask(a.owner, a.name, a.mode); is != a.is || e != a.e {
			t.Errorf("ask %d, of %d for %q in %d, tells %v, %d; want %v, %d", k, a.owner, a.name, a.mode, is, e, a.is, a.e)
		}
	}
}

// has holds what Has tells against what it should.
func has(t *testing.T, x *lock.Table, owner int, name string, mode int, is bool) {
	t.Helper()
	if m, i := x.Has(owner, name); m != mode || i != is {
		t.Errorf("Has %d %q tells %d, %v; want %d, %v", owner, name, m, i, mode, is)
	}
}

// waits holds what Waits tells against what it should.
func waits(t *testing.T, x *lock.Table, owner int, name string, mode int, is bool) {
	t.Helper()
	if n, m, i := x.Waits(owner); n != name || m != mode || i != is {
		t.Errorf("Waits %d tells %q, %d, %v; want %q, %d, %v", owner, n, m, i, name, mode, is)
	}
}

// same holds a list that a call told against what it should tell.
func same(t *testing.T, what string, got []int, want ...int) {
	t.Helper()
	if !slices.Equal(got, want) {
		t.Errorf("%s tells %v, want %v", what, got, want)
	}
}

// named holds who has a name, and who waits for it, against what it should be.
func named(t *testing.T, x *lock.Table, name string, holders, queue []int) {
	t.Helper()
	same(t, "Holders "+name, x.Holders(name), holders...)
	same(t, "Queue "+name, x.Queue(name), queue...)
}

func freed(t *testing.T, x *lock.Table, owner int, want ...int) {
	t.Helper()
	same(t, "Free", x.Free(owner), want...)
}

// noModes are numbers that are none.
var noModes = []int{math.MinInt, -1 << 40, -4, -1, 4, 5, 64, 256, 1 << 32, 1<<32 + 1, math.MaxInt}

func TestModes(t *testing.T) { // P12.1
	if lock.IS != 0 || lock.IX != 1 || lock.S != 2 || lock.X != 3 {
		t.Error("the modes are not 0 to 3")
	}
	for _, x := range []struct {
		a, b int
		fits bool
		both int
	}{
		{lock.IS, lock.IS, true, lock.IS}, {lock.IS, lock.IX, true, lock.IX}, {lock.IS, lock.S, true, lock.S}, {lock.IS, lock.X, false, lock.X},
		{lock.IX, lock.IS, true, lock.IX}, {lock.IX, lock.IX, true, lock.IX}, {lock.IX, lock.S, false, lock.X}, {lock.IX, lock.X, false, lock.X},
		{lock.S, lock.IS, true, lock.S}, {lock.S, lock.IX, false, lock.X}, {lock.S, lock.S, true, lock.S}, {lock.S, lock.X, false, lock.X},
		{lock.X, lock.IS, false, lock.X}, {lock.X, lock.IX, false, lock.X}, {lock.X, lock.S, false, lock.X}, {lock.X, lock.X, false, lock.X},
	} {
		if lock.Fits(x.a, x.b) != x.fits || lock.Both(x.a, x.b) != x.both {
			t.Errorf("of %d and %d: Fits %v, Both %d; want %v, %d", x.a, x.b, lock.Fits(x.a, x.b), lock.Both(x.a, x.b), x.fits, x.both)
		}
	}
}

func TestNoModes(t *testing.T) { // P12.1: false, and X
	for _, a := range noModes {
		for _, b := range append([]int{lock.IS, lock.IX, lock.S, lock.X}, noModes...) {
			if lock.Fits(a, b) || lock.Fits(b, a) {
				t.Errorf("%d and %d fit", a, b)
			}
			if lock.Both(a, b) != lock.X || lock.Both(b, a) != lock.X {
				t.Errorf("both of %d and %d is %d, %d", a, b, lock.Both(a, b), lock.Both(b, a))
			}
		}
	}
}

func TestZeroTable(t *testing.T) { // P12.1, P12.3, P12.4
	for _, x := range []*lock.Table{{}, new(lock.Table).Copy(), new(lock.Table).Copy().Copy()} {
		for _, owner := range []int{math.MinInt, -1, 0, 1, math.MaxInt} {
			for _, name := range []string{"", "a", "\xff\x00"} {
				has(t, x, owner, name, 0, false)
				named(t, x, name, nil, nil)
			}
			waits(t, x, owner, "", 0, false)
			freed(t, x, owner)
		}
		same(t, "Stuck", x.Stuck())
		asked(t, x, ask{1, "a", lock.S, true, 0}, ask{2, "a", lock.X, false, 0}) // and it is one that can be used
		named(t, x, "a", []int{1}, []int{2})
	}
}

func TestLooks(t *testing.T) { // P12.1: of what is there, and of what is not
	var x lock.Table
	asked(t, &x,
		ask{7, "a", lock.IX, true, 0}, ask{3, "a", lock.IS, true, 0}, ask{math.MaxInt, "a", lock.IX, true, 0}, ask{0, "a", lock.IS, true, 0},
		ask{9, "a", lock.S, false, 0}, ask{1, "a", lock.X, false, 0}, ask{8, "a", lock.IS, false, 0}, ask{3, "", lock.X, true, 0}, ask{0, "", lock.IS, false, 0},
		ask{5, "a\x00", lock.S, true, 0})
	named(t, &x, "a", []int{0, 3, 7, math.MaxInt}, []int{9, 1, 8})
	named(t, &x, "", []int{3}, []int{0})
	named(t, &x, "a\x00", []int{5}, nil)
	named(t, &x, "b", nil, nil)
	named(t, &x, "A", nil, nil)
	has(t, &x, 7, "a", lock.IX, true)
	has(t, &x, 3, "a", lock.IS, true)
	has(t, &x, math.MaxInt, "a", lock.IX, true)
	has(t, &x, 0, "a", lock.IS, true)
	has(t, &x, 3, "", lock.X, true)
	has(t, &x, 5, "a\x00", lock.S, true)
	has(t, &x, 0, "", 0, false) // it waits for that, and has another one
	has(t, &x, 9, "a", 0, false)
	has(t, &x, 7, "", 0, false)
	has(t, &x, 7, "b", 0, false)
	has(t, &x, -7, "a", 0, false)
	has(t, &x, 6, "a", 0, false)
	waits(t, &x, 9, "a", lock.S, true)
	waits(t, &x, 1, "a", lock.X, true)
	waits(t, &x, 8, "a", lock.IS, true)
	waits(t, &x, 0, "", lock.IS, true)
	for _, owner := range []int{7, 3, 5, 6, -1, math.MinInt, math.MaxInt} {
		waits(t, &x, owner, "", 0, false)
	}
}

func TestAskOfWhatMayNotBe(t *testing.T) { // P12.2
	var x lock.Table
	for _, mode := range noModes {
		asked(t, &x, ask{1, "a", mode, false, api.ErrArg}, ask{-1, "a", mode, false, api.ErrArg})
	}
	for _, owner := range []int{-1, -2, math.MinInt} {
		asked(t, &x, ask{owner, "a", lock.IS, false, api.ErrArg}, ask{owner, "a", lock.X, false, api.ErrArg})
	}
	named(t, &x, "a", nil, nil)
	asked(t, &x, ask{1, "a", lock.X, true, 0}, ask{2, "a", lock.IX, false, 0})
	for _, mode := range noModes { // the error that is named first comes first, also for one that waits
		asked(t, &x, ask{2, "a", mode, false, api.ErrArg}, ask{2, "b", mode, false, api.ErrArg}, ask{1, "a", mode, false, api.ErrArg}, ask{-2, "a", mode, false, api.ErrArg})
	}
	for mode := range 4 { // for what it has not, for what it waits for, for what nobody has
		asked(t, &x, ask{2, "a", mode, false, api.ErrLockWait}, ask{2, "b", mode, false, api.ErrLockWait}, ask{-2, "a", mode, false, api.ErrArg})
	}
	named(t, &x, "a", []int{1}, []int{2})
	named(t, &x, "b", nil, nil)
	waits(t, &x, 2, "a", lock.IX, true)
	freed(t, &x, 1, 2)
	asked(t, &x, ask{2, "b", lock.X, true, 0}) // it waits no more
}

func TestAskByOneThatWaitsForWhatItHas(t *testing.T) { // P12.2
	var x lock.Table
	asked(t, &x, ask{1, "a", lock.S, true, 0}, ask{2, "a", lock.S, true, 0}, ask{1, "b", lock.X, true, 0}, ask{1, "a", lock.X, false, 0},
		ask{1, "a", lock.S, false, api.ErrLockWait}, ask{1, "b", lock.X, false, api.ErrLockWait}, ask{1, "c", lock.IS, false, api.ErrLockWait})
	has(t, &x, 1, "a", lock.S, true) // until it gets more
	waits(t, &x, 1, "a", lock.X, true)
	freed(t, &x, 2, 1)
	has(t, &x, 1, "a", lock.X, true)
}

func TestAskFirst(t *testing.T) { // P12.2: of what nobody has, in each mode; and then by another one
	for a := range 4 {
		for b := range 4 {
			var x lock.Table
			is := lock.Fits(a, b)
			asked(t, &x, ask{1, "a", a, true, 0}, ask{2, "a", b, is, 0})
			has(t, &x, 1, "a", a, true)
			if is {
				has(t, &x, 2, "a", b, true)
				named(t, &x, "a", []int{1, 2}, nil)
				waits(t, &x, 2, "", 0, false)
			} else {
				has(t, &x, 2, "a", 0, false)
				named(t, &x, "a", []int{1}, []int{2})
				waits(t, &x, 2, "a", b, true)
			}
			asked(t, &x, ask{0, "b", b, true, 0}) // another name is another matter
		}
	}
}

func TestAskAgain(t *testing.T) { // P12.2: alone; the mode, Both of which it has
	for a := range 4 {
		for b := range 4 {
			var x lock.Table
			asked(t, &x, ask{1, "a", a, true, 0}, ask{1, "a", b, true, 0})
			has(t, &x, 1, "a", lock.Both(a, b), true)
			named(t, &x, "a", []int{1}, nil)
		}
	}
	var x lock.Table
	asked(t, &x, ask{1, "a", lock.IX, true, 0}, ask{1, "a", lock.S, true, 0}, ask{1, "a", lock.IS, true, 0})
	has(t, &x, 1, "a", lock.X, true)
}

func TestAskAgainBesideOthers(t *testing.T) { // P12.2
	for _, x := range []struct{ other, first, second int }{
		{lock.IS, lock.IS, lock.IX}, {lock.IS, lock.IS, lock.S}, {lock.IX, lock.IS, lock.IX}, {lock.S, lock.IS, lock.S},
		{lock.IS, lock.IS, lock.X}, {lock.IS, lock.IX, lock.S}, {lock.IS, lock.S, lock.IX}, {lock.IX, lock.IX, lock.S}, {lock.S, lock.S, lock.IX},
		{lock.IX, lock.IS, lock.S}, {lock.S, lock.IS, lock.IX}, {lock.IX, lock.IX, lock.X}, {lock.S, lock.S, lock.IS}, {lock.IX, lock.IX, lock.IS},
	} {
		for _, many := range []bool{false, true} { // also while somebody waits
			var l lock.Table
			asked(t, &l, ask{1, "a", x.other, true, 0}, ask{2, "a", x.first, true, 0})
			if many {
				asked(t, &l, ask{3, "a", lock.X, false, 0})
			}
			both := lock.Both(x.first, x.second)
			is := lock.Fits(both, x.other)
			asked(t, &l, ask{2, "a", x.second, is, 0})
			if is {
				has(t, &l, 2, "a", both, true)
				waits(t, &l, 2, "", 0, false)
			} else {
				has(t, &l, 2, "a", x.first, true)
				waits(t, &l, 2, "a", both, true)
			}
			freed(t, &l, 3)
			if !is {
				freed(t, &l, 1, 2)
				has(t, &l, 2, "a", both, true)
			}
		}
	}
}

func TestAskBehindOneThatWaits(t *testing.T) { // P12.2: it fits all holders, but somebody waits
	var x lock.Table
	asked(t, &x, ask{1, "a", lock.S, true, 0}, ask{2, "a", lock.X, false, 0}, ask{3, "a", lock.S, false, 0}, ask{4, "a", lock.IS, false, 0}, ask{1, "a", lock.IS, true, 0}, ask{1, "a", lock.S, true, 0}, ask{5, "b", lock.S, true, 0})
	named(t, &x, "a", []int{1}, []int{2, 3, 4})
	asked(t, &x, ask{1, "a", lock.IX, true, 0}) // who has the name alone gets it in all modes
	has(t, &x, 1, "a", lock.X, true)
	named(t, &x, "a", []int{1}, []int{2, 3, 4})
	freed(t, &x, 1, 2)
	freed(t, &x, 2, 3, 4)
	asked(t, &x, ask{6, "a", lock.S, true, 0}) // nobody waits any more
}

func TestPlace(t *testing.T) { // P12.2: of those who have the name, and of those who have not
	var x lock.Table
	for _, owner := range []int{1, 2, 3, 4} {
		asked(t, &x, ask{owner, "a", lock.IS, true, 0})
	}
	asked(t, &x, ask{9, "a", lock.X, false, 0})
	named(t, &x, "a", []int{1, 2, 3, 4}, []int{9})
	asked(t, &x, ask{3, "a", lock.X, false, 0}) // ahead of one that has not
	named(t, &x, "a", []int{1, 2, 3, 4}, []int{3, 9})
	asked(t, &x, ask{5, "a", lock.IS, false, 0}) // behind both kinds
	named(t, &x, "a", []int{1, 2, 3, 4}, []int{3, 9, 5})
	asked(t, &x, ask{1, "a", lock.X, false, 0}) // behind one that has it, ahead of two that have not
	named(t, &x, "a", []int{1, 2, 3, 4}, []int{3, 1, 9, 5})
	asked(t, &x, ask{4, "a", lock.X, false, 0})
	named(t, &x, "a", []int{1, 2, 3, 4}, []int{3, 1, 4, 9, 5})
	asked(t, &x, ask{0, "a", lock.S, false, 0})
	named(t, &x, "a", []int{1, 2, 3, 4}, []int{3, 1, 4, 9, 5, 0})
	freed(t, &x, 2)
	named(t, &x, "a", []int{1, 3, 4}, []int{3, 1, 4, 9, 5, 0})
	freed(t, &x, 1) // of the midst
	named(t, &x, "a", []int{3, 4}, []int{3, 4, 9, 5, 0})
	asked(t, &x, ask{1, "a", lock.IS, false, 0}) // it has it no more
	named(t, &x, "a", []int{3, 4}, []int{3, 4, 9, 5, 0, 1})
	freed(t, &x, 4, 3)
	named(t, &x, "a", []int{3}, []int{9, 5, 0, 1})
	freed(t, &x, 3, 9)
	named(t, &x, "a", []int{9}, []int{5, 0, 1})
	freed(t, &x, 9, 0, 1, 5)
	named(t, &x, "a", []int{0, 1, 5}, nil)
}

func TestPlaceWhereAllHave(t *testing.T) { // P12.2
	var x lock.Table
	for _, owner := range []int{1, 2, 3} {
		asked(t, &x, ask{owner, "a", lock.S, true, 0})
	}
	asked(t, &x, ask{3, "b", lock.X, true, 0}, ask{4, "b", lock.X, false, 0}) // another name's queue is another one
	asked(t, &x, ask{2, "a", lock.X, false, 0}, ask{1, "a", lock.IX, false, 0}, ask{3, "a", lock.X, false, 0})
	named(t, &x, "a", []int{1, 2, 3}, []int{2, 1, 3})
	named(t, &x, "b", []int{3}, []int{4})
	waits(t, &x, 1, "a", lock.X, true) // Both of S and IX
}

func TestFreeNobody(t *testing.T) { // P12.3
	var x lock.Table
	asked(t, &x, ask{1, "a", lock.S, true, 0}, ask{2, "a", lock.X, false, 0}, ask{3, "a", lock.S, false, 0})
	for _, owner := range []int{4, 0, -1, math.MinInt, math.MaxInt} {
		freed(t, &x, owner)
		named(t, &x, "a", []int{1}, []int{2, 3})
	}
}

func TestFreeInAQueue(t *testing.T) { // P12.3: the first one, one of the midst, the last one
	for _, x := range []struct {
		free       int
		got        []int
		holders, q []int
	}{
		{2, []int{3, 4}, []int{1, 3, 4}, []int{5, 6}},
		{3, nil, []int{1}, []int{2, 4, 5, 6}},
		{5, nil, []int{1}, []int{2, 3, 4, 6}},
		{6, nil, []int{1}, []int{2, 3, 4, 5}},
		{1, []int{2}, []int{2}, []int{3, 4, 5, 6}},
		{7, nil, []int{1}, []int{2, 3, 4, 5, 6}},
	} {
		var l lock.Table
		asked(t, &l, ask{1, "a", lock.S, true, 0}, ask{2, "a", lock.X, false, 0}, ask{3, "a", lock.S, false, 0}, ask{4, "a", lock.IS, false, 0}, ask{5, "a", lock.IX, false, 0}, ask{6, "a", lock.IS, false, 0}, ask{7, "b", lock.X, true, 0})
		freed(t, &l, x.free, x.got...)
		named(t, &l, "a", x.holders, x.q)
		waits(t, &l, x.free, "", 0, false)
		has(t, &l, x.free, "a", 0, false)
		for _, owner := range x.got {
			waits(t, &l, owner, "", 0, false)
		}
		for _, owner := range x.q {
			if _, _, is := l.Waits(owner); !is {
				t.Errorf("behind Free %d: %d waits no more", x.free, owner)
			}
		}
	}
}

func TestFreeOfMany(t *testing.T) { // P12.3: of more names than one, and while it waits; rising by owner, not by name
	var x lock.Table
	asked(t, &x, ask{1, "a", lock.X, true, 0}, ask{1, "b", lock.IX, true, 0}, ask{1, "c", lock.S, true, 0}, ask{8, "d", lock.S, true, 0}, ask{1, "e", lock.X, true, 0},
		ask{9, "a", lock.IX, false, 0}, ask{4, "a", lock.IX, false, 0}, ask{5, "a", lock.S, false, 0},
		ask{6, "b", lock.S, false, 0}, ask{3, "c", lock.IX, false, 0}, ask{1, "d", lock.X, false, 0}, ask{2, "d", lock.IS, false, 0}, ask{7, "d", lock.X, false, 0})
	freed(t, &x, 1, 2, 3, 4, 6, 9)
	named(t, &x, "a", []int{4, 9}, []int{5})
	named(t, &x, "b", []int{6}, nil)
	named(t, &x, "c", []int{3}, nil)
	named(t, &x, "d", []int{2, 8}, []int{7})
	named(t, &x, "e", nil, nil)
	has(t, &x, 9, "a", lock.IX, true)
	has(t, &x, 6, "b", lock.S, true)
	has(t, &x, 3, "c", lock.IX, true)
	has(t, &x, 2, "d", lock.IS, true)
	freed(t, &x, 1)
	asked(t, &x, ask{1, "e", lock.IS, true, 0}) // it waits no more
}

func TestFreeHasWhatItWaitsFor(t *testing.T) { // P12.3: in the place of what it had
	var x lock.Table
	asked(t, &x, ask{1, "a", lock.S, true, 0}, ask{2, "a", lock.IS, true, 0}, ask{3, "a", lock.S, true, 0}, ask{2, "a", lock.IX, false, 0}, ask{1, "a", lock.X, false, 0}, ask{4, "a", lock.IS, false, 0})
	c := x.Copy()
	freed(t, c, 2) // it had the name, waited for it, and was the first of the queue; 1 can't have X beside 3
	named(t, c, "a", []int{1, 3}, []int{1, 4})
	freed(t, c, 3, 1)
	has(t, c, 1, "a", lock.X, true)
	freed(t, c, 1, 4)

	freed(t, &x, 1)
	named(t, &x, "a", []int{2, 3}, []int{2, 4})
	freed(t, &x, 3, 2, 4) // 2 gets IX, and then 4 IS, of one queue
	has(t, &x, 2, "a", lock.IX, true)
	has(t, &x, 4, "a", lock.IS, true)
	named(t, &x, "a", []int{2, 4}, nil)
}

func TestFreeTillOneDoesNotFit(t *testing.T) { // P12.3: who comes behind one that does not fit waits on, though it would fit
	var x lock.Table
	asked(t, &x, ask{1, "a", lock.X, true, 0}, ask{2, "a", lock.IX, false, 0}, ask{3, "a", lock.S, false, 0}, ask{4, "a", lock.IX, false, 0}, ask{5, "a", lock.IS, false, 0})
	freed(t, &x, 1, 2)
	named(t, &x, "a", []int{2}, []int{3, 4, 5})
	freed(t, &x, 3, 4, 5)
	named(t, &x, "a", []int{2, 4, 5}, nil)
}

func TestExample(t *testing.T) { // the chapter's, and DOC.md's eighth
	var x lock.Table
	asked(t, &x, ask{1, "a", lock.S, true, 0}, ask{2, "a", lock.X, false, 0}, ask{3, "a", lock.S, false, 0})
	freed(t, &x, 1, 2)
	named(t, &x, "a", []int{2}, []int{3})
}
