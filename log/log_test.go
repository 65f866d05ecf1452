package log_test

import (
	"fmt"
	"math"
	"slices"
	"strings"
	"testing"

	"quiltwork/api"
	"quiltwork/log"
	"quiltwork/named"
	"quiltwork/prim"
	"quiltwork/tree"
)

// hunk is a hunk whose lines are written with blanks between them.
func hunk(name string, at int, old, with string) prim.Prim {
	return prim.Prim{Kind: prim.Hunk, Name: name, At: at, Old: strings.Fields(old), New: strings.Fields(with)}
}

func add(name string) prim.Prim { return prim.Prim{Kind: prim.Add, Name: name} }

func rm(name string) prim.Prim { return prim.Prim{Kind: prim.Rm, Name: name} }

func move(name, to string) prim.Prim { return prim.Prim{Kind: prim.Move, Name: name, To: to} }

// patch is a patch with a note that tells its number, so that a note in a wrong place is seen.
func patch(id int, deps []int, l ...prim.Prim) named.Patch {
	return named.Patch{Id: id, Note: fmt.Sprint("note of ", id), Deps: deps, L: l}
}

// on is the numbers of patches on which one depends, to be written short.
func on(ids ...int) []int { return ids }

func ids(l []named.Patch) []int {
	var out []int
	for _, p := range l {
		out = append(out, p.Id)
	}
	return out
}

// copied is a patch that shares nothing with p, without a call of the program.
func copied(p named.Patch) named.Patch {
	p.Deps = append([]int{}, p.Deps...)
	l := p.L
	p.L = nil
	for _, q := range l {
		q.Old = append([]string{}, q.Old...)
		q.New = append([]string{}, q.New...)
		p.L = append(p.L, q)
	}
	return p
}

func copiedAll(l []named.Patch) []named.Patch {
	var out []named.Patch
	for _, p := range l {
		out = append(out, copied(p))
	}
	return out
}

// alike tells whether both patches have the same in all fields, without a call of the program.
func alike(p, q named.Patch) bool {
	return p.Id == q.Id && p.Note == q.Note && slices.Equal(p.Deps, q.Deps) && slices.EqualFunc(p.L, q.L, func(a, b prim.Prim) bool {
		return a.Kind == b.Kind && a.Name == b.Name && a.To == b.To && a.At == b.At && slices.Equal(a.Old, b.Old) && slices.Equal(a.New, b.New)
	})
}

func allAlike(a, b []named.Patch) bool { return slices.EqualFunc(a, b, alike) }

// zero tells whether p is the zero value: no number, no note, no rows.
func zero(p named.Patch) bool { return p.Id == 0 && p.Note == "" && p.Deps == nil && p.L == nil }

// text is the text of the tree that the patches make of an empty one, prim by prim.
func text(t testing.TB, l []named.Patch) string {
	t.Helper()
	x := tree.New()
	for _, p := range l {
		for _, q := range p.L {
			if e := prim.Apply(x, q); e != api.OK {
				t.Fatalf("%v of patch %d does not fit: %d", q, p.Id, e)
			}
		}
	}
	return x.Text()
}

// held holds all that the log tells, and is not changed by, against the patches that it should have.
func held(t testing.TB, l *log.Log, want []named.Patch) {
	t.Helper()
	if got := l.All(); !allAlike(got, want) {
		t.Fatalf("All tells %v, not %v", got, want)
	}
	if got := l.Ids(); !slices.Equal(got, ids(want)) {
		t.Fatalf("Ids tells %v, not %v", got, ids(want))
	}
	for _, p := range want {
		if got, is := l.Get(p.Id); !is || !alike(got, p) {
			t.Fatalf("Get(%d) = %v, %v, not %v", p.Id, got, is, p)
		}
	}
	if got := l.Tree().Text(); got != text(t, want) {
		t.Fatalf("the tree of %v is %q, not %q", want, got, text(t, want))
	}
}

// of is a log of these patches.
func of(t testing.TB, l ...named.Patch) *log.Log {
	t.Helper()
	x := log.New()
	for _, p := range l {
		if e := x.Add(p); e != api.OK {
			t.Fatalf("Add(%v) tells %d", p, e)
		}
	}
	return x
}

// some are patches of which the third and the fifth need the first, and the fourth depends on the second; the sixth needs the fifth alone.
func some() []named.Patch {
	return []named.Patch{
		patch(1, nil, add("a"), hunk("a", 0, "", "1 2 3 4 5 6 7 8")),
		patch(2, nil, add("b")),
		patch(3, nil, hunk("a", 0, "1", "x y")),
		patch(4, on(2), add("c"), hunk("c", 0, "", "z")),
		patch(5, nil, hunk("a", 8, "8", "")),
		patch(6, on(5), add("d")),
	}
}

func TestNew(t *testing.T) { // P8.1
	l := log.New()
	held(t, l, nil)
	if files, lines := l.Tree().Many(); len(l.Ids()) != 0 || len(l.All()) != 0 || files != 0 || lines != 0 {
		t.Errorf("New has %v, %d files, %d lines", l.All(), files, lines)
	}
	for _, id := range []int{math.MinInt, -1, 0, 1, named.Far, math.MaxInt} {
		if p, is := l.Get(id); is || !zero(p) {
			t.Errorf("Get(%d) of no patches = %v, %v", id, p, is)
		}
		if e := l.Last(id); e != api.ErrLogId {
			t.Errorf("Last(%d) of no patches tells %d", id, e)
		}
		if got := l.Needs(id); len(got) != 0 {
			t.Errorf("Needs(%d) of no patches = %v", id, got)
		}
		if got, e := l.Take(id); e != api.ErrLogId || len(got) != 0 {
			t.Errorf("Take(%d) of no patches = %v, %d", id, got, e)
		}
		if e := l.Order([]int{id}); e != api.ErrArg {
			t.Errorf("Order(%d) of no patches tells %d", id, e)
		}
	}
	if e := l.Order(nil); e != api.OK {
		t.Errorf("Order of no patches tells %d", e)
	}
	if e := l.Order([]int{}); e != api.OK {
		t.Errorf("Order of no patches tells %d", e)
	}
	if p, is := l.Drop(); is || !zero(p) {
		t.Errorf("Drop of no patches = %v, %v", p, is)
	}
	if e := of(t, some()...).Copy().Order(nil); e != api.ErrArg {
		t.Errorf("Order of nothing tells %d", e)
	}
	held(t, l, nil)
	l.Add(some()[0])
	held(t, log.New(), nil)
}

func TestAdd(t *testing.T) { // P8.1
	l := log.New()
	for k, p := range some() {
		if e := l.Add(p); e != api.OK {
			t.Fatalf("Add(%v) tells %d", p, e)
		}
		held(t, l, some()[:k+1])
	}
	if s := l.Tree().Text(); s != "a 8\nx\ny\n2\n3\n4\n5\n6\n7\nb 0\nc 1\nz\nd 0\n" {
		t.Errorf("the tree is %q", s)
	}
	// Numbers need not rise, a dependence may stand anywhere ahead, and a note may be any right line.
	more := []named.Patch{
		{Id: named.Far, Note: strings.Repeat("n", api.MaxLine), Deps: on(1, 2, 3, 4, 5, 6), L: []prim.Prim{move("d", "e")}},
		{Id: 7, L: []prim.Prim{rm("e")}},
		{Id: 9, Note: "\x00\xff", Deps: on(named.Far), L: []prim.Prim{add("e"), hunk("e", 0, "", "q"), hunk("e", 0, "q", ""), rm("e")}},
		patch(8, on(1, 2, 3, 4, 5, 6, 7, 9), hunk("a", 0, "x y 2 3 4 5 6 7", "")),
	}
	for k, p := range more {
		if e := l.Add(p); e != api.OK {
			t.Fatalf("Add(%v) tells %d", p, e)
		}
		held(t, l, slices.Concat(some(), more[:k+1]))
	}
}

func TestAddOfMany(t *testing.T) { // P8.1: the limits of patches, files and lines are other layers'
	l, want := log.New(), []named.Patch(nil)
	for k := range 3 * api.MaxLog {
		name := fmt.Sprint("f", k)
		p := patch(k+1, nil, add(name))
		for n := range api.MaxPrims - 1 {
			p.L = append(p.L, hunk(name, n, "", "x y z"))
		}
		if e := l.Add(p); e != api.OK {
			t.Fatalf("Add of patch %d tells %d", k+1, e)
		}
		want = append(want, p)
	}
	held(t, l, want)
	if e := l.Last(1); e != api.OK {
		t.Errorf("Last(1) tells %d", e)
	}
	held(t, l, append(want[1:], want[0]))
}

// wrongs are patches that are not right, each for one thing, which would fit the log of some.
func wrongs() []named.Patch {
	h := hunk("b", 0, "", "x")
	long := patch(7, nil)
	for range api.MaxPrims + 1 {
		long.L = append(long.L, h)
	}
	return []named.Patch{
		{},
		patch(0, nil, h),
		patch(-1, nil, h),
		patch(named.Far+1, nil, h),
		{Id: 7, Note: "a\n", L: []prim.Prim{h}},
		{Id: 7, Note: strings.Repeat("n", api.MaxLine+1), L: []prim.Prim{h}},
		patch(7, on(7), h),
		patch(7, on(0), h),
		patch(7, on(2, 1), h),
		patch(7, on(1, 1), h),
		patch(7, on(1, 2, 3, 4, 5, 6, 8, 9, 10), h),
		patch(7, nil),
		long,
		patch(7, nil, prim.Prim{}),
		patch(7, nil, h, prim.Prim{Kind: 4, Name: "b"}),
		patch(7, nil, hunk("b", 0, "", "")),
		patch(7, nil, hunk("b", -1, "", "x")),
		patch(7, nil, hunk("B", 0, "", "x")),
		patch(7, nil, prim.Prim{Kind: prim.Add, Name: "f", At: 1}),
		patch(7, nil, move("b", "b")),
	}
}

// refused holds that Add tells the error, and changes neither log nor patch.
func refused(t *testing.T, l *log.Log, p named.Patch, want api.Errno) {
	t.Helper()
	all, was := l.All(), copied(p)
	if e := l.Add(p); e != want {
		t.Errorf("Add(%v) tells %d, not %d", p, e, want)
	}
	held(t, l, all)
	if !alike(p, was) { // R5
		t.Errorf("Add changes %v to %v", was, p)
	}
}

func TestAddRefused(t *testing.T) { // P8.1
	l := of(t, some()...)
	for _, p := range wrongs() {
		refused(t, l, p, api.ErrNamedForm)
		refused(t, log.New(), p, api.ErrNamedForm)
	}
	for id := 1; id <= 6; id++ {
		refused(t, l, patch(id, nil, hunk("b", 0, "", "x")), api.ErrLogTwice)
	}
	refused(t, l, some()[5], api.ErrLogTwice)
	for _, deps := range [][]int{on(8), on(named.Far), on(1, 8), on(8, 9), on(1, 2, 3, 4, 5, 6, 8), on(1, 2, 3, 4, 5, 6, 8, 9)} {
		refused(t, l, patch(7, deps, hunk("b", 0, "", "x")), api.ErrLogDeps)
	}
	refused(t, log.New(), patch(7, on(1), add("a")), api.ErrLogDeps)
	for _, row := range [][]prim.Prim{
		{add("a")}, {rm("a")}, {rm("e")}, {move("a", "b")}, {move("e", "f")}, {hunk("e", 0, "", "x")},
		{hunk("a", 0, "1", "x")}, {hunk("a", 9, "", "x")}, {hunk("a", 7, "7 8", "")}, {hunk("b", prim.Far, "", "x")},
		// What comes ahead of it is undone.
		{add("e"), add("e")},
		{hunk("a", 0, "x", "q q"), move("a", "e"), add("a"), hunk("a", 0, "", "r"), rm("b"), rm("d"), hunk("e", 0, "x", "")},
	} {
		refused(t, l, patch(7, nil, row...), api.ErrPrimFits)
		refused(t, l, patch(7, on(1, 6), row...), api.ErrPrimFits)
	}
	for _, p := range some()[1:] { // none of these errors has the number be taken
		if p.Id != 2 && p.Id != 6 {
			refused(t, log.New(), p, map[int]api.Errno{3: api.ErrPrimFits, 4: api.ErrLogDeps, 5: api.ErrPrimFits}[p.Id])
		}
	}
	held(t, l, some())
	if e := l.Add(patch(7, on(6), hunk("b", 0, "", "x"))); e != api.OK {
		t.Errorf("Add tells %d", e)
	}
}

func TestAddWithSeveralErrors(t *testing.T) { // P8.1, R1: the one named first
	l := of(t, some()...)
	for k := range 16 {
		wrong, twice, deps, fits := k&1 > 0, k&2 > 0, k&4 > 0, k&8 > 0
		p, want := patch(7, on(1), hunk("b", 0, "", "x")), api.OK
		if fits {
			p.L[0].Old, want = []string{"none"}, api.ErrPrimFits
		}
		if deps {
			p.Deps, want = on(1, 8), api.ErrLogDeps
		}
		if twice {
			p.Id, want = 3, api.ErrLogTwice
		}
		if !wrong {
			if want != api.OK {
				refused(t, l, p, want)
			}
			continue
		}
		note, number, dep, place := copied(p), copied(p), copied(p), copied(p)
		note.Note = "\n"
		number.Deps = append(number.Deps, number.Id)
		dep.Deps = append(dep.Deps, 0)
		place.L[0].At = -1
		for _, p := range []named.Patch{note, number, dep, place} {
			refused(t, l, p, api.ErrNamedForm)
		}
	}
}

func TestGet(t *testing.T) { // P8.1
	l := of(t, some()...)
	for _, id := range []int{math.MinInt, -1, 0, 7, named.Far, math.MaxInt} {
		if p, is := l.Get(id); is || !zero(p) {
			t.Errorf("Get(%d) = %v, %v", id, p, is)
		}
	}
	// A patch is told as it stands: 3, behind 5, is as it was, and 5 is a line higher.
	l.Last(3)
	if p, is := l.Get(5); !is || !alike(p, patch(5, nil, hunk("a", 7, "8", ""))) {
		t.Errorf("Get(5) = %v, %v", p, is)
	}
	if p, is := l.Get(3); !is || !alike(p, some()[2]) {
		t.Errorf("Get(3) = %v, %v", p, is)
	}
}

func TestLast(t *testing.T) { // P8.2, P8.4
	l := of(t, some()...)
	was := l.Tree().Text()
	want := some()
	for _, x := range []struct {
		id    int
		e     api.Errno
		order []int
	}{
		{7, api.ErrLogId, nil}, {0, api.ErrLogId, nil}, {-1, api.ErrLogId, nil}, {math.MaxInt, api.ErrLogId, nil},
		{1, api.ErrLogStuck, nil}, // at its second swap
		{2, api.ErrLogStuck, nil}, // by a dependence
		{5, api.ErrLogStuck, nil},
		{6, api.OK, on(1, 2, 3, 4, 5, 6)}, // the last one
		{3, api.OK, on(1, 2, 4, 5, 6, 3)},
		{3, api.OK, on(1, 2, 4, 5, 6, 3)},
		{1, api.ErrLogStuck, nil}, // at its third swap
		{4, api.OK, on(1, 2, 5, 6, 3, 4)},
		{2, api.ErrLogStuck, nil}, // at its last swap
		{6, api.OK, on(1, 2, 5, 3, 4, 6)},
		{5, api.ErrLogStuck, nil},
	} {
		if x.order == nil {
			x.order = ids(want)
		}
		if e := l.Last(x.id); e != x.e || !slices.Equal(l.Ids(), x.order) || l.Tree().Text() != was {
			t.Fatalf("Last(%d) tells %d, and the order is %v; want %d, %v", x.id, e, l.Ids(), x.e, x.order)
		}
		if x.e == api.OK {
			want = l.All()
		}
		held(t, l, want)
	}
	// What each is in the end.
	held(t, l, []named.Patch{some()[0], some()[1], patch(5, nil, hunk("a", 7, "8", "")), some()[2], some()[3], some()[5]})
}

func TestLastPutsBack(t *testing.T) { // P8.2: what was swapped ahead of the one that is stuck is as it was, places and all
	l := []named.Patch{
		patch(1, nil, add("a"), hunk("a", 0, "", "1 2 3 4 5 6 7 8 9")),
		patch(2, nil, hunk("a", 0, "", "p q")),
		patch(3, nil, hunk("a", 4, "3", "")),
		patch(4, nil, hunk("a", 8, "8", "r s")),
		patch(5, nil, move("a", "b")),
		patch(6, nil, hunk("b", 0, "p", "")),
	}
	x := of(t, l...)
	if e := x.Last(2); e != api.ErrLogStuck {
		t.Errorf("Last(2) tells %d", e)
	}
	held(t, x, l)
	x.Drop()
	if e := x.Last(2); e != api.OK {
		t.Errorf("Last(2) tells %d", e)
	}
	held(t, x, []named.Patch{l[0], patch(3, nil, hunk("a", 2, "3", "")), patch(4, nil, hunk("a", 6, "8", "r s")), l[4], patch(2, nil, hunk("b", 0, "", "p q"))})
}

func TestDrop(t *testing.T) { // P8.2
	l := of(t, some()...)
	for n := len(some()) - 1; n >= 0; n-- {
		if p, is := l.Drop(); !is || !alike(p, some()[n]) {
			t.Errorf("Drop = %v, %v, not %v", p, is, some()[n])
		}
		held(t, l, some()[:n])
	}
	for range 2 {
		if p, is := l.Drop(); is || !zero(p) {
			t.Errorf("Drop of no patches = %v, %v", p, is)
		}
		held(t, l, nil)
	}
	// What was dropped can be added again, and what was brought behind all is dropped as it is there.
	l = of(t, some()...)
	l.Last(3)
	p, _ := l.Drop()
	if p.Id != 3 || l.Tree().Text() != "a 7\n1\n2\n3\n4\n5\n6\n7\nb 0\nc 1\nz\nd 0\n" {
		t.Errorf("Drop = %v, and the tree is %q", p, l.Tree().Text())
	}
	if _, is := l.Get(3); is {
		t.Error("what was dropped is there")
	}
	if e := l.Add(p); e != api.OK {
		t.Errorf("Add of what was dropped tells %d", e)
	}
	if !log.Same(l, of(t, some()...)) {
		t.Errorf("the log is %v", l.All())
	}
	// A row of several prims is undone from the last one on.
	row := patch(7, nil, move("a", "e"), hunk("e", 0, "x y", ""), add("a"), hunk("a", 0, "", "q"), hunk("a", 1, "", "r"), move("b", "f"))
	before := l.All()
	l.Add(row)
	l.Drop()
	held(t, l, before)
}
