package named_test

import (
	"fmt"
	"math"
	"slices"
	"strings"
	"testing"

	"quiltwork/api"
	"quiltwork/named"
	"quiltwork/prim"
	"quiltwork/swap"
	"quiltwork/tree"
)

// hunk is a hunk whose lines are written with blanks between them.
func hunk(name string, at int, old, with string) prim.Prim {
	return prim.Prim{Kind: prim.Hunk, Name: name, At: at, Old: strings.Fields(old), New: strings.Fields(with)}
}

func add(name string) prim.Prim { return prim.Prim{Kind: prim.Add, Name: name} }

func rm(name string) prim.Prim { return prim.Prim{Kind: prim.Rm, Name: name} }

func move(name, to string) prim.Prim { return prim.Prim{Kind: prim.Move, Name: name, To: to} }

// patch is a patch with a note that tells its number, so that a note in a wrong place is seen.
func patch(id int, deps []int, l ...prim.Prim) named.Patch {
	return named.Patch{Id: id, Note: fmt.Sprint("note of ", id), Deps: deps, L: l}
}

// on is the numbers of patches on which one depends, to be written short.
func on(ids ...int) []int { return ids }

func ids(l []named.Patch) []int {
	var out []int
	for _, p := range l {
		out = append(out, p.Id)
	}
	return out
}

// copied is a patch that shares nothing with p, without a call of the program.
func copied(p named.Patch) named.Patch {
	p.Deps = append([]int{}, p.Deps...)
	l := p.L
	p.L = nil
	for _, q := range l {
		q.Old = append([]string{}, q.Old...)
		q.New = append([]string{}, q.New...)
		p.L = append(p.L, q)
	}
	return p
}

func copiedAll(l []named.Patch) []named.Patch {
	var out []named.Patch
	for _, p := range l {
		out = append(out, copied(p))
	}
	return out
}

// alike tells whether both patches have the same in all fields, without a call of the program.
func alike(p, q named.Patch) bool {
	return p.Id == q.Id && p.Note == q.Note && slices.Equal(p.Deps, q.Deps) && slices.EqualFunc(p.L, q.L, func(a, b prim.Prim) bool {
		return a.Kind == b.Kind && a.Name == b.Name && a.To == b.To && a.At == b.At && slices.Equal(a.Old, b.Old) && slices.Equal(a.New, b.New)
	})
}

func allAlike(a, b []named.Patch) bool { return slices.EqualFunc(a, b, alike) }

// zero tells whether p is the zero value: no number, no note, no rows.
func zero(p named.Patch) bool { return p.Id == 0 && p.Note == "" && p.Deps == nil && p.L == nil }

// some is a row of n prims that are right.
func some(n int) []prim.Prim {
	var l []prim.Prim
	for k := range n {
		l = append(l, hunk("a", k, "x", "y"))
	}
	return l
}

// wrong are prims that are not right, of each kind, and of none.
func wrong() []prim.Prim {
	return []prim.Prim{
		{},
		{Kind: -1, Name: "e"},
		{Kind: 4, Name: "e"},
		hunk("e", 9, "x", "x"),
		hunk("e", -1, "", "x"),
		hunk("e", prim.Far+1, "", "x"),
		hunk("E", 9, "", "x"),
		{Kind: prim.Hunk, Name: "e", New: []string{"x\n"}},
		add(""),
		rm("e "),
		{Kind: prim.Add, Name: "e", At: 1},
		move("e", "e"),
		move("e", ""),
	}
}

// rights are patches that are right, at the edges of what may be.
func rights() []named.Patch {
	h := hunk("a", 0, "", "x")
	return []named.Patch{
		patch(1, nil, h),
		patch(2, on(), h),
		patch(named.Far, nil, h),
		patch(named.Far-1, on(named.Far), h),
		patch(named.Far, on(1, named.Far-1), h),
		patch(1, on(2), h),
		patch(5, on(1, 2, 3, 4, 6, 7, 8, 9), h),
		patch(20, on(1, 2, 3, 4, 6, 7, 8, named.Far), h),
		{Id: 7, L: some(1)}, // no note
		{Id: 7, Note: strings.Repeat("n", api.MaxLine), L: some(1)},
		{Id: 7, Note: " \t\r\x00\xff", L: some(1)},
		patch(7, nil, some(2)...),
		patch(7, nil, some(api.MaxPrims-1)...),
		patch(7, nil, some(api.MaxPrims)...),
		patch(7, nil, add("a"), hunk("a", prim.Far, "", "x"), move("a", "b"), rm("b")),
		patch(7, nil, rm("a"), rm("a")), // that fits no tree
	}
}

// wrongs are patches that are not right, each for one thing.
func wrongs() []named.Patch {
	h := hunk("a", 0, "", "x")
	l := []named.Patch{
		{},
		patch(0, nil, h),
		patch(-1, nil, h),
		patch(math.MinInt, nil, h),
		patch(named.Far+1, nil, h),
		patch(math.MaxInt, nil, h),
		{Id: 1, Note: "\n", L: some(1)},
		{Id: 1, Note: "a\n", L: some(1)},
		{Id: 1, Note: "a\nb", L: some(1)},
		{Id: 1, Note: strings.Repeat("n", api.MaxLine+1), L: some(1)},
		patch(20, on(1, 2, 3, 4, 5, 6, 7, 8, 9), h),
		patch(20, slices.Repeat(on(1), 9), h),
		patch(1, on(0), h),
		patch(1, on(-1), h),
		patch(1, on(math.MinInt), h),
		patch(1, on(-1, 2), h),
		patch(1, on(0, 2, 3), h),
		patch(1, on(named.Far+1), h),
		patch(1, on(math.MaxInt), h),
		patch(1, on(2, named.Far+1), h),
		patch(1, on(2, 2), h),
		patch(1, on(2, 3, 3), h),
		patch(1, on(2, 2, 3), h),
		patch(1, on(3, 2), h),
		patch(1, on(2, 4, 3), h),
		patch(1, on(3, 2, 4), h),
		patch(1, on(2, 5, 3, 6), h),
		patch(1, on(1), h),
		patch(2, on(1, 2), h),
		patch(2, on(2, 3), h),
		patch(2, on(1, 2, 3), h),
		patch(named.Far, on(named.Far), h),
		patch(1, nil),
		{Id: 1, L: []prim.Prim{}},
		patch(1, nil, some(api.MaxPrims+1)...),
		patch(1, nil, some(2*api.MaxPrims)...),
	}
	for _, p := range wrong() {
		l = append(l, patch(1, nil, p), patch(1, nil, p, h), patch(1, nil, h, p, h), patch(1, nil, h, h, p), patch(1, nil, append(some(api.MaxPrims-1), p)...))
	}
	return l
}

func TestRight(t *testing.T) { // P7.1
	if named.Far != 1000000000 {
		t.Errorf("Far = %d", named.Far)
	}
	for _, p := range rights() {
		was := copied(p)
		if !named.Right(p) {
			t.Errorf("Right(%v) = false", p)
		}
		if !named.Right(p) || !alike(p, was) {
			t.Errorf("Right, asked again, of %v: %v", was, p)
		}
	}
	for _, p := range wrongs() {
		if named.Right(p) {
			t.Errorf("Right(%v) = true", p)
		}
	}
}

func TestSame(t *testing.T) { // P7.1
	h, g := hunk("a", 0, "", "x"), hunk("a", 0, "x", "")
	unlike := []named.Patch{
		{},
		{Id: 1},
		{Note: "n"},
		{Deps: on(0)},
		{Deps: on(0, 0)},
		{L: []prim.Prim{{}}},
		{L: []prim.Prim{{}, {}}},
		{Id: 1, Note: "n", Deps: on(2, 3), L: []prim.Prim{h, g}},
		{Id: 2, Note: "n", Deps: on(2, 3), L: []prim.Prim{h, g}},
		{Id: -1, Note: "n", Deps: on(2, 3), L: []prim.Prim{h, g}},
		{Id: 1, Note: "", Deps: on(2, 3), L: []prim.Prim{h, g}},
		{Id: 1, Note: "N", Deps: on(2, 3), L: []prim.Prim{h, g}},
		{Id: 1, Note: "n ", Deps: on(2, 3), L: []prim.Prim{h, g}},
		{Id: 1, Note: "n", Deps: on(2), L: []prim.Prim{h, g}},
		{Id: 1, Note: "n", Deps: nil, L: []prim.Prim{h, g}},
		{Id: 1, Note: "n", Deps: on(2, 4), L: []prim.Prim{h, g}},
		{Id: 1, Note: "n", Deps: on(3, 2), L: []prim.Prim{h, g}},
		{Id: 1, Note: "n", Deps: on(2, 3, 4), L: []prim.Prim{h, g}},
		{Id: 1, Note: "n", Deps: on(2, 3), L: nil},
		{Id: 1, Note: "n", Deps: on(2, 3), L: []prim.Prim{h}},
		{Id: 1, Note: "n", Deps: on(2, 3), L: []prim.Prim{g, h}},
		{Id: 1, Note: "n", Deps: on(2, 3), L: []prim.Prim{h, h}},
		{Id: 1, Note: "n", Deps: on(2, 3), L: []prim.Prim{h, g, g}},
		{Id: 1, Note: "n", Deps: on(2, 3), L: []prim.Prim{h, hunk("a", 0, "x x", "")}},
		{Id: 1, Note: "n", Deps: on(2, 3), L: []prim.Prim{h, hunk("a", 1, "x", "")}},
	}
	for i, p := range unlike {
		for k, q := range unlike {
			if is := named.Same(p, copied(q)); is != (i == k) {
				t.Errorf("Same(%v, %v) = %v", p, q, is)
			}
		}
	}
	for _, x := range [][2]named.Patch{
		{{Deps: on()}, {}},
		{{L: []prim.Prim{}}, {}},
		{{Deps: on(), L: []prim.Prim{}}, {}},
		{{Id: 1, Deps: on(), L: some(1)}, {Id: 1, L: some(1)}},
		{{L: []prim.Prim{{Old: []string{}}}}, {L: []prim.Prim{{New: []string{}}}}},
	} {
		if !named.Same(x[0], x[1]) || !named.Same(x[1], x[0]) { // R3
			t.Errorf("Same: an empty row is not as good as none: %v, %v", x[0], x[1])
		}
	}
}

func TestClone(t *testing.T) { // P7.1
	for _, p := range slices.Concat(rights(), wrongs()) {
		was := copied(p)
		if q := named.Clone(p); !alike(q, was) || !named.Same(p, q) || !alike(p, was) || named.Right(p) != named.Right(q) {
			t.Errorf("Clone(%v) = %v", was, q)
		}
	}
}

// held holds what Swap and Needs tell of p and q against what is wanted.
func held(t *testing.T, p, q, first, second named.Patch, is bool) {
	t.Helper()
	wasP, wasQ := copied(p), copied(q)
	a, b, ok := named.Swap(p, q)
	if ok != is || !alike(a, first) || !alike(b, second) {
		t.Errorf("Swap(%v, %v) = %v, %v, %v, want %v, %v, %v", p, q, a, b, ok, first, second, is)
	}
	if !ok && !(zero(a) && zero(b)) {
		t.Errorf("Swap(%v, %v) tells false, and %v, %v", p, q, a, b)
	}
	if needs := named.Needs(p, q); needs == is {
		t.Errorf("Needs(%v, %v) = %v", p, q, needs)
	}
	if !alike(p, wasP) || !alike(q, wasQ) { // R5
		t.Errorf("Swap changes %v, %v to %v, %v", wasP, wasQ, p, q)
	}
}

// refused holds that p and q do not swap.
func refused(t *testing.T, p, q named.Patch) {
	t.Helper()
	held(t, p, q, named.Patch{}, named.Patch{}, false)
}

func TestSwap(t *testing.T) { // P7.2, P7.5
	for _, w := range []struct{ p, q, first, second named.Patch }{
		{patch(1, nil, add("a")), patch(2, nil, add("b")), patch(2, nil, add("b")), patch(1, nil, add("a"))},
		{patch(2, nil, add("a")), patch(1, nil, add("b")), patch(1, nil, add("b")), patch(2, nil, add("a"))},
		// Each keeps its own number, note and dependences.
		{patch(3, on(1, 9), hunk("a", 0, "x", "p p")), patch(4, on(7), hunk("a", 6, "y", "")), patch(4, on(7), hunk("a", 5, "y", "")), patch(3, on(1, 9), hunk("a", 0, "x", "p p"))},
		{named.Patch{Id: 3, L: []prim.Prim{hunk("a", 6, "y", "")}}, patch(4, on(1, 2), hunk("a", 0, "x", "p p")), patch(4, on(1, 2), hunk("a", 0, "x", "p p")), named.Patch{Id: 3, L: []prim.Prim{hunk("a", 7, "y", "")}}},
		// Both depend on one other, which is no matter.
		{patch(3, on(1), add("a")), patch(4, on(1), add("b")), patch(4, on(1), add("b")), patch(3, on(1), add("a"))},
		// Rows of several.
		{patch(1, nil, hunk("a", 0, "x", "p p"), hunk("a", 9, "y", "")), patch(2, nil, hunk("a", 4, "", "q"), hunk("b", 1, "", "r")), patch(2, nil, hunk("a", 3, "", "q"), hunk("b", 1, "", "r")), patch(1, nil, hunk("a", 0, "x", "p p"), hunk("a", 10, "y", ""))},
		{patch(1, nil, move("a", "c"), move("b", "d")), patch(2, nil, hunk("c", 0, "", "x"), hunk("d", 3, "", "y")), patch(2, nil, hunk("a", 0, "", "x"), hunk("b", 3, "", "y")), patch(1, nil, move("a", "c"), move("b", "d"))},
		// The edges of what is right.
		{patch(named.Far, on(1, 2, 3, 4, 5, 6, 7, 8), add("a")), patch(named.Far-1, on(1, 2, 3, 4, 5, 6, 7, 9), add("b")), patch(named.Far-1, on(1, 2, 3, 4, 5, 6, 7, 9), add("b")), patch(named.Far, on(1, 2, 3, 4, 5, 6, 7, 8), add("a"))},
		{patch(1, nil, some(api.MaxPrims)...), patch(2, nil, hunk("a", 99, "", "x")), patch(2, nil, hunk("a", 99, "", "x")), patch(1, nil, some(api.MaxPrims)...)},
		{patch(1, nil, hunk("a", 0, "x", "")), patch(2, nil, hunk("a", prim.Far-1, "", "y")), patch(2, nil, hunk("a", prim.Far, "", "y")), patch(1, nil, hunk("a", 0, "x", ""))},
	} {
		held(t, w.p, w.q, w.first, w.second, true)
		held(t, w.first, w.second, w.p, w.q, true)
	}
}

func TestSwapOfWhatIsNotRight(t *testing.T) { // P7.2
	free := patch(7, nil, add("free"))
	for _, p := range wrongs() {
		refused(t, p, free)
		refused(t, free, p)
		refused(t, p, p)
	}
	for _, p := range wrongs()[:5] { // two, both not right
		for _, q := range wrongs() {
			refused(t, p, q)
			refused(t, q, p)
		}
	}
}

func TestSwapOfOneNumber(t *testing.T) { // P7.2
	for _, id := range []int{1, 2, named.Far} {
		refused(t, patch(id, nil, add("a")), patch(id, nil, add("b")))
		refused(t, patch(id, on(3), add("a")), patch(id, on(4), hunk("b", 0, "", "x")))
		refused(t, patch(id, nil, add("a")), patch(id, nil, add("a")))
	}
}

func TestSwapOfDependences(t *testing.T) { // P7.2: whatever their rows say
	a, b := add("a"), add("b")
	for _, x := range [][2]named.Patch{
		{patch(1, nil, a), patch(2, on(1), b)},
		{patch(1, on(2), a), patch(2, nil, b)},
		{patch(1, on(2), a), patch(2, on(1), b)},
		{patch(5, on(1, 2, 9), a), patch(9, nil, b)},
		{patch(5, on(1, 2, 9, 10), a), patch(2, on(3), b)},
		{patch(5, on(1, 7), a), patch(6, on(4, 5), b)},
		{patch(9, nil, a), patch(20, on(1, 2, 3, 4, 5, 6, 7, 9), b)},
		{patch(named.Far, nil, a), patch(20, on(named.Far), b)},
	} {
		refused(t, x[0], x[1])
		refused(t, x[1], x[0])
		free := x // without the dependences both orders do
		free[0].Deps, free[1].Deps = nil, nil
		held(t, free[0], free[1], free[1], free[0], true)
		held(t, free[1], free[0], free[0], free[1], true)
	}
}

func TestSwapOfRowsThatDoNot(t *testing.T) { // P7.2
	for _, x := range [][2][]prim.Prim{
		{{hunk("a", 0, "x", "p p")}, {hunk("a", 1, "p", "")}},
		{{add("a")}, {hunk("a", 0, "", "x")}},
		{{add("a")}, {rm("a")}},
		{{move("a", "b")}, {add("a")}},
		{{add("c"), add("a"), add("d")}, {add("e"), hunk("a", 0, "", "x"), add("f")}},
		{{hunk("a", 0, "x", ""), add("b")}, {add("c"), hunk("a", prim.Far, "", "y")}}, // it would lie beyond Far
	} {
		refused(t, patch(1, nil, x[0]...), patch(2, nil, x[1]...))
		refused(t, patch(2, on(8), x[0]...), patch(1, on(9), x[1]...))
	}
}

// pastHeld holds what Past tells against what is wanted.
func pastHeld(t *testing.T, p []named.Patch, q, first named.Patch, rest []named.Patch, is bool) {
	t.Helper()
	wasP, wasQ := copiedAll(p), copied(q)
	a, l, ok := named.Past(p, q)
	if ok != is || !alike(a, first) || !allAlike(l, rest) {
		t.Errorf("Past(%v, %v) = %v, %v, %v, want %v, %v, %v", p, q, a, l, ok, first, rest, is)
	}
	if !ok && (!zero(a) || len(l) != 0) {
		t.Errorf("Past(%v, %v) tells false, and %v, %v", p, q, a, l)
	}
	if !allAlike(p, wasP) || !alike(q, wasQ) { // R5
		t.Errorf("Past changes %v, %v to %v, %v", wasP, wasQ, p, q)
	}
}

func TestPast(t *testing.T) { // P7.3
	p := []named.Patch{patch(1, nil, hunk("a", 0, "", "x")), patch(2, nil, hunk("a", 20, "", "y y")), patch(3, on(1), move("a", "b")), patch(4, nil, hunk("b", 5, "z", ""))}
	q := patch(9, on(5), hunk("b", 10, "q", "r r r"))
	moved := func(k int, l ...prim.Prim) named.Patch { return patch(p[k].Id, p[k].Deps, l...) }
	for n, w := range []struct {
		first prim.Prim
		rest  []named.Patch
	}{
		{hunk("b", 10, "q", "r r r"), nil},
		{hunk("b", 10, "q", "r r r"), []named.Patch{p[0]}}, // of p[0] alone it is another file
		{hunk("b", 10, "q", "r r r"), []named.Patch{p[0], p[1]}},
		{hunk("a", 9, "q", "r r r"), []named.Patch{p[0], moved(1, hunk("a", 22, "", "y y")), p[2]}},
		{hunk("a", 10, "q", "r r r"), []named.Patch{p[0], moved(1, hunk("a", 22, "", "y y")), p[2], p[3]}},
	} {
		pastHeld(t, p[:n], q, patch(9, on(5), w.first), w.rest, true)
	}
	// One of them, first, last or between, does not swap.
	free := patch(9, nil, add("f"), hunk("g", 3, "", "x"))
	for k, stuck := range []named.Patch{
		patch(6, nil, add("f")), patch(6, nil, hunk("g", 3, "", "y")), patch(6, on(9), add("h")), patch(9, nil, add("h")), {}, patch(0, nil, add("h")), patch(6, nil),
	} {
		pastHeld(t, p, free, free, p, true)
		for at := range len(p) + 1 {
			pastHeld(t, slices.Concat(p[:at], []named.Patch{stuck}, p[at:]), free, named.Patch{}, nil, false)
		}
		if !named.Needs(stuck, free) {
			t.Errorf("%d: Needs = false", k)
		}
	}
	for _, x := range p { // what is handed in depends on one of them
		needy := patch(9, on(x.Id), add("f"))
		pastHeld(t, p, needy, named.Patch{}, nil, false)
	}
	for _, x := range wrongs() {
		pastHeld(t, p[:1], x, named.Patch{}, nil, false)
		pastHeld(t, p, x, named.Patch{}, nil, false)
	}
}

func TestPastOfNoPatches(t *testing.T) { // P7.3: no two have to be swapped, so it is told as it is
	for _, none := range [][]named.Patch{nil, {}} {
		for _, q := range slices.Concat(rights(), wrongs()) {
			pastHeld(t, none, q, q, nil, true)
		}
	}
}

func TestPastFromTheLastOneOn(t *testing.T) { // P7.3: what is wrong with the first ones comes to light only behind the last ones
	// The hunk touches the first one only if the last one has not moved it away.
	p := []named.Patch{patch(1, nil, hunk("a", 5, "", "x")), patch(2, nil, hunk("a", 0, "", "y y y"))}
	pastHeld(t, p, patch(3, nil, hunk("a", 5, "q", "")), patch(3, nil, hunk("a", 2, "q", "")), []named.Patch{patch(1, nil, hunk("a", 4, "", "x")), p[1]}, true)
	pastHeld(t, p, patch(3, nil, hunk("a", 8, "x", "")), named.Patch{}, nil, false)
	pastHeld(t, p[:1], patch(3, nil, hunk("a", 5, "x", "")), named.Patch{}, nil, false)
}

// groupHeld holds what Group tells against what is wanted.
func groupHeld(t *testing.T, l, group, rest []named.Patch) {
	t.Helper()
	was := copiedAll(l)
	a, b := named.Group(l)
	if !allAlike(a, group) || !allAlike(b, rest) {
		t.Errorf("Group(%v) = %v, %v, want %v, %v", l, a, b, group, rest)
	}
	if !allAlike(l, was) { // R5
		t.Errorf("Group changes %v to %v", was, l)
	}
}

func TestGroup(t *testing.T) { // P7.4
	list := func(l ...named.Patch) []named.Patch { return l }
	groupHeld(t, nil, nil, nil)
	groupHeld(t, list(), nil, nil)
	for _, p := range slices.Concat(rights(), wrongs()) {
		groupHeld(t, list(p), list(p), nil)
	}
	a, b, lines := patch(1, nil, add("a")), patch(2, nil, add("b")), patch(3, nil, hunk("a", 0, "", "x"))
	groupHeld(t, list(a, b, lines), list(a, lines), list(b)) // the chapter's example
	groupHeld(t, list(a, lines), list(a, lines), nil)
	groupHeld(t, list(b, a, lines), list(b), list(a, lines))
	groupHeld(t, list(lines, b), list(lines), list(b))
	// All can be brought ahead; what they are there, and the first one behind them, is told.
	groupHeld(t,
		list(patch(1, on(8), hunk("a", 9, "x", "y y")), patch(2, nil, hunk("a", 0, "", "p")), patch(3, on(7), hunk("a", 20, "q", ""), move("c", "d")), patch(4, nil, move("a", "b"))),
		list(patch(1, on(8), hunk("b", 10, "x", "y y"))),
		list(patch(2, nil, hunk("a", 0, "", "p")), patch(3, on(7), hunk("a", 19, "q", ""), move("c", "d")), patch(4, nil, move("a", "b"))))
	// None can be: each one depends on one ahead of it, or touches one.
	all := list(a, patch(2, on(1), add("b")), patch(4, on(2), add("c")), lines)
	groupHeld(t, all, all, nil)
}

func TestGroupOfMore(t *testing.T) { // P7.4
	list := func(l ...named.Patch) []named.Patch { return l }
	// 4 and 6 are stuck only because of 3 and 4, which came into the group ahead of them.
	l := list(
		patch(1, nil, hunk("a", 0, "", "x")),
		patch(2, nil, hunk("b", 0, "", "y")),
		patch(3, nil, hunk("a", 0, "x", "z")),
		patch(4, on(3), hunk("c", 0, "", "q")),
		patch(5, nil, hunk("a", 8, "p", "")),
		patch(6, nil, hunk("c", 0, "q", "r")),
		patch(7, on(5), hunk("c", 9, "", "s")),
	)
	groupHeld(t, l,
		list(l[0], l[2], l[3], l[5]),
		list(l[1], patch(5, nil, hunk("a", 7, "p", "")), patch(7, on(5), hunk("c", 8, "", "s"))))
	// Without the first one these come ahead of the second one.
	groupHeld(t, l[1:3], l[1:2], l[2:3])
	groupHeld(t, list(l[0], l[3], l[5]), l[:1], list(l[3], l[5]))
	// One that depends on one in rest comes ahead too: both are in order there.
	groupHeld(t, list(l[0], l[1], patch(8, on(2), add("e")), patch(9, nil, hunk("b", 0, "y", ""))), l[:1], list(l[1], patch(8, on(2), add("e")), patch(9, nil, hunk("b", 0, "y", ""))))
	// One that is not right stays, and so do all behind it.
	for _, p := range wrongs() {
		groupHeld(t, list(l[0], p, l[1]), list(l[0], p, l[1]), nil)
		groupHeld(t, list(p, l[1], l[2]), list(p, l[1], l[2]), nil)
		groupHeld(t, list(l[0], l[1], p), list(l[0], p), list(l[1]))
	}
	// One that has a number of the group stays, but not those behind it.
	twin := patch(1, nil, add("e"))
	groupHeld(t, list(l[0], twin, l[1]), list(l[0], twin), list(l[1]))
	groupHeld(t, list(l[0], l[1], patch(2, nil, add("e"))), l[:1], list(l[1], patch(2, nil, add("e"))))
}

// swapByRule tells by the chapters' words what Swap tells, by swaps of two prims.
func swapByRule(p, q named.Patch) (first, second named.Patch, is bool) {
	if !named.Right(p) || !named.Right(q) || p.Id == q.Id || slices.Contains(p.Deps, q.Id) || slices.Contains(q.Deps, p.Id) {
		return named.Patch{}, named.Patch{}, false
	}
	l, m := slices.Clone(p.L), slices.Clone(q.L)
	for k := len(l) - 1; k >= 0; k-- {
		for i := range m {
			m[i], l[k], is = swap.Swap(l[k], m[i])
			if !is {
				return named.Patch{}, named.Patch{}, false
			}
		}
	}
	p.L, q.L = l, m
	return q, p, true
}

// groupByRule tells by the chapter's words what Group tells, by swaps of two patches.
func groupByRule(l []named.Patch) (group, rest []named.Patch) {
	for k, p := range l {
		all := append(slices.Clone(group), p)
		is := k > 0
		for at := len(group); is && at > 0; at-- {
			all[at-1], all[at], is = swapByRule(all[at-1], all[at])
		}
		if is {
			group, rest = all[1:], append(rest, all[0])
		} else {
			group = append(slices.Clone(group), p)
		}
	}
	return group, rest
}

// small are patches of which lists are made, some of one number.
func small() []named.Patch {
	return []named.Patch{
		patch(1, nil, hunk("a", 0, "", "x")),
		patch(2, nil, hunk("a", 4, "x", ""), hunk("b", 0, "", "x")),
		patch(3, on(1), hunk("b", 2, "", "y y")),
		patch(4, on(2, 3), move("a", "c")),
		patch(5, nil, move("b", "d"), hunk("d", 6, "x y", "z")),
		patch(5, nil, add("e")),
		patch(6, nil, hunk("c", 1, "q", "r"), hunk("a", 9, "", "x x")),
		patch(7, on(4), rm("e")),
		patch(8, nil),
	}
}

func TestAllByRule(t *testing.T) { // P7.2, P7.3, P7.4
	var lists [][]named.Patch
	longer := [][]named.Patch{nil}
	for range 4 {
		var next [][]named.Patch
		for _, l := range longer {
			for _, p := range small() {
				next = append(next, append(slices.Clone(l), p))
			}
		}
		lists, longer = append(lists, next...), next
	}
	both, stuck, past := 0, 0, 0
	for _, l := range lists {
		group, rest := groupByRule(l)
		a, b := named.Group(l)
		if !allAlike(a, group) || !allAlike(b, rest) {
			t.Fatalf("Group(%v) = %v, %v, want %v, %v", l, a, b, group, rest)
		}
		if len(group) > 1 && len(rest) > 1 {
			both++
		}
		ahead, last := l[:len(l)-1], l[len(l)-1]
		if _, others := groupByRule(ahead); len(others) == 0 { // all ahead of it are one group: what becomes of the last one is what Past tells
			first, behind, is := named.Past(ahead, last)
			if len(ahead) > 0 && is != (len(rest) == 1) || is && len(ahead) > 0 && (!alike(first, rest[0]) || !allAlike(behind, group)) {
				t.Fatalf("Past(%v, %v) = %v, %v, %v", ahead, last, first, behind, is)
			}
			if is {
				past++
			}
		}
		if len(l) == 2 {
			first, second, is := swapByRule(l[0], l[1])
			held(t, l[0], l[1], first, second, is)
			if !is {
				stuck++
			}
		}
	}
	if both < 300 || stuck < 20 || past < 100 {
		t.Errorf("%d lists had more than one in both, %d pairs did not swap, %d were brought past", both, stuck, past)
	}
}

// files is a tree in another way: what trees are built of.
type files map[string]string

// of builds a tree of these files, whose lines are written with blanks between them.
func of(t testing.TB, f files) *tree.Tree {
	t.Helper()
	x := tree.New()
	for name, lines := range f {
		if x.Add(name) != api.OK || x.Put(name, strings.Fields(lines)) != api.OK {
			t.Fatalf("no tree of %q", f)
		}
	}
	return x
}

// made is a copy of the tree with the patches applied, prim by prim; nil, if one does not fit.
func made(x *tree.Tree, l ...named.Patch) *tree.Tree {
	x = x.Copy()
	for _, p := range l {
		for _, q := range p.L {
			if prim.Apply(x, q) != api.OK {
				return nil
			}
		}
	}
	return x
}

// dice picks numbers, always the same ones: each is made of the one ahead of it.
type dice uint64

func (d *dice) pick(n int) int {
	*d = *d*6364136223846793005 + 1442695040888963407
	return int(uint64(*d) >> 33 % uint64(n))
}

// fitting is a prim that fits the tree, of five names.
func (d *dice) fitting(x *tree.Tree) prim.Prim {
	names := []string{"a", "b", "c", "d", "e"}
	for {
		name, to := names[d.pick(5)], names[d.pick(5)]
		l, is := x.Get(name)
		at := d.pick(len(l) + 1)
		end := min(at+d.pick(3), len(l))
		p := prim.Prim{Kind: prim.Hunk, Name: name, At: at, Old: l[at:end]}
		for range d.pick(3) {
			p.New = append(p.New, fmt.Sprint("l", d.pick(4)))
		}
		switch kind := d.pick(8); {
		case !is:
			p = add(name)
		case kind == 0:
			p = move(name, to)
		case kind == 1:
			p = rm(name)
		}
		if prim.Apply(x.Copy(), p) == api.OK {
			return p
		}
	}
}

// patches are n patches of up to three prims that fit the tree, one behind the other, and the tree that they make. A few depend on one ahead of them.
func (d *dice) patches(x *tree.Tree, n int) ([]named.Patch, *tree.Tree) {
	var l []named.Patch
	x = x.Copy()
	for k := range n {
		p := patch(k+1, nil)
		for range 1 + d.pick(3) {
			q := d.fitting(x)
			prim.Apply(x, q)
			p.L = append(p.L, q)
		}
		if k > 0 && d.pick(6) == 0 {
			p.Deps = on(1 + d.pick(k))
		}
		l = append(l, p)
	}
	return l, x
}

// wide is a tree with room for hunks that do not touch.
func wide(t testing.TB) *tree.Tree {
	return of(t, files{"a": "1 2 3 4 5 6 7 8 9 10 11 12 13 14 15", "b": "1 2 3 4 5 6 7 8 9", "c": "", "d": "1 1 1 1 1 1"})
}

func TestSwappedAgain(t *testing.T) { // P7.5
	d, swapped := dice(1), 0
	for range 20000 {
		x := wide(t)
		l, want := d.patches(x, 2)
		first, second, is := named.Swap(l[0], l[1])
		if !is {
			continue
		}
		swapped++
		if got := made(x, first, second); got == nil || !tree.Same(got, want) {
			t.Fatalf("%v swap to %v, %v, which do not make the same tree", l, first, second)
		}
		if a, b, is := named.Swap(first, second); !is || !alike(a, l[0]) || !alike(b, l[1]) {
			t.Fatalf("%v, swapped and swapped again, are %v, %v, %v", l, a, b, is)
		}
	}
	if swapped < 2000 {
		t.Errorf("%d pairs were swapped", swapped)
	}
}

func TestPastMakesTheSameTree(t *testing.T) { // P7.3, P7.5
	d, brought := dice(2), 0
	for range 20000 {
		x := wide(t)
		l, want := d.patches(x, 3+d.pick(3))
		last := len(l) - 1
		first, rest, is := named.Past(l[:last], l[last])
		if !is {
			continue
		}
		brought++
		if got := made(x, append([]named.Patch{first}, rest...)...); got == nil || !tree.Same(got, want) || !slices.Equal(ids(rest), ids(l[:last])) {
			t.Fatalf("%v: %v, brought ahead of %v, does not make the same tree", l, first, rest)
		}
	}
	if brought < 500 {
		t.Errorf("%d were brought ahead", brought)
	}
}

func TestGroupMakesTheSameTree(t *testing.T) { // P7.4, P7.5
	d, both, later := dice(3), 0, 0
	for range 20000 {
		x := wide(t)
		l, want := d.patches(x, 1+d.pick(7))
		group, rest := named.Group(l)
		if got := made(x, slices.Concat(rest, group)...); got == nil || !tree.Same(got, want) {
			t.Fatalf("the group of %v is %v, behind %v, which do not make the same tree", l, group, rest)
		}
		all := append(ids(group), ids(rest)...)
		slices.Sort(all)
		if !slices.Equal(all, ids(l)) || !slices.IsSorted(ids(group)) || !slices.IsSorted(ids(rest)) || group[0].Id != 1 {
			t.Fatalf("the group of %v is %v, rest is %v", ids(l), ids(group), ids(rest))
		}
		if a, b := groupByRule(l); !allAlike(a, group) || !allAlike(b, rest) {
			t.Fatalf("Group(%v) = %v, %v, want %v, %v", l, group, rest, a, b)
		}
		if len(group) > 1 && len(rest) > 1 {
			both++
		}
		for _, p := range group[1:] { // stuck only because of another one in the group
			if k := slices.Index(ids(l), p.Id); !named.Needs(l[0], l[k]) {
				later++
				break
			}
		}
	}
	if both < 1000 || later < 100 {
		t.Errorf("%d lists had more than one in both, %d one that the first one does not hold", both, later)
	}
}

// roomy is a patch with room behind all its rows, where a careless append would write.
func roomy(p named.Patch) named.Patch {
	p.Deps = append(make([]int, 0, len(p.Deps)+4), p.Deps...)
	l := make([]prim.Prim, 0, len(p.L)+4)
	for _, q := range p.L {
		q.Old = append(make([]string, 0, len(q.Old)+4), q.Old...)
		q.New = append(make([]string, 0, len(q.New)+4), q.New...)
		l = append(l, q)
	}
	p.L = l
	return p
}

func roomyList(l ...named.Patch) []named.Patch {
	out := make([]named.Patch, 0, len(l)+4)
	for _, p := range l {
		out = append(out, roomy(p))
	}
	return out
}

// spoil writes into all rows of a patch, and into their room.
func spoil(p named.Patch) {
	deps, l := p.Deps[:cap(p.Deps)], p.L[:cap(p.L)]
	for k := range deps {
		deps[k] = -9
	}
	for k := range l {
		for _, lines := range [][]string{l[k].Old[:cap(l[k].Old)], l[k].New[:cap(l[k].New)]} {
			for i := range lines {
				lines[i] = "written"
			}
		}
		l[k] = prim.Prim{Kind: 9, Name: "written", Old: l[k].Old, New: l[k].New}
	}
}

// spoilAll writes into all patches of a list, and into its room.
func spoilAll(l []named.Patch) {
	for _, p := range l {
		spoil(p)
	}
	l = l[:cap(l)]
	for k := range l {
		l[k].Id, l[k].Note = -9, "written"
	}
}

// roomIsWritten tells whether something was written behind the list, or behind a row of one of its patches.
func roomIsWritten(l []named.Patch) bool {
	if slices.ContainsFunc(l[len(l):cap(l)], func(p named.Patch) bool { return p.Id != 0 || p.L != nil }) {
		return true
	}
	for _, p := range l {
		if slices.ContainsFunc(p.Deps[len(p.Deps):cap(p.Deps)], func(id int) bool { return id != 0 }) ||
			slices.ContainsFunc(p.L[len(p.L):cap(p.L)], func(q prim.Prim) bool { return q.Name != "" }) {
			return true
		}
		for _, q := range p.L {
			if strings.Join(q.Old[len(q.Old):cap(q.Old)], "")+strings.Join(q.New[len(q.New):cap(q.New)], "") != "" {
				return true
			}
		}
	}
	return false
}

// told are the calls that tell patches, each as lists that must not share.
var told = []struct {
	name string
	call func(l []named.Patch) [][]named.Patch
}{
	{"Clone", func(l []named.Patch) [][]named.Patch {
		return [][]named.Patch{{named.Clone(l[0])}, {named.Clone(l[0])}, {named.Clone(l[1])}}
	}},
	{"Swap", func(l []named.Patch) [][]named.Patch {
		first, second, _ := named.Swap(l[0], l[1])
		return [][]named.Patch{{first}, {second}}
	}},
	{"Past none", func(l []named.Patch) [][]named.Patch {
		first, rest, _ := named.Past(l[:0], l[0])
		return [][]named.Patch{{first}, rest}
	}},
	{"Past some", func(l []named.Patch) [][]named.Patch {
		first, rest, _ := named.Past(l[:2], l[3])
		return [][]named.Patch{{first}, rest}
	}},
	{"Past one that is stuck", func(l []named.Patch) [][]named.Patch {
		first, rest, _ := named.Past(l[:2], l[2])
		return [][]named.Patch{{first}, rest}
	}},
	{"Group of one", func(l []named.Patch) [][]named.Patch {
		group, rest := named.Group(l[:1])
		return [][]named.Patch{group, rest}
	}},
	{"Group", func(l []named.Patch) [][]named.Patch {
		group, rest := named.Group(l)
		return [][]named.Patch{group, rest}
	}},
}

// roomyLists are lists of five: the second and the last two do not need the first, the third does.
func roomyLists() [][]named.Patch {
	l := []named.Patch{
		patch(1, on(11, 12), hunk("a", 0, "x y", "z"), hunk("b", 1, "q", "r")),
		patch(2, on(13), hunk("a", 9, "s", "t u")),
		patch(3, on(1, 14), hunk("c", 3, "v", "w")),
		patch(4, on(15), hunk("d", 4, "k", "l"), hunk("a", 20, "m", "n n")),
		patch(5, on(16), hunk("c", 30, "o", "p")),
	}
	one := roomyList(l...)
	lines := append(make([]string, 0, 9), "x", "y", "z")
	deps := append(make([]int, 0, 9), 11, 12, 13)
	var shared []named.Patch // all rows are pieces of two
	for k, p := range l {
		p = copied(p)
		p.Deps = deps[k%2 : k%2+2]
		if k == 2 {
			p.L[0].Name = "b"
			p.L[0].At = 1
		}
		for i := range p.L {
			p.L[i].Old, p.L[i].New = lines[:1], lines[1:1+len(p.L[i].New)]
		}
		shared = append(shared, p)
	}
	row := []prim.Prim{l[0].L[0], l[1].L[0], hunk("a", 0, "z", ""), l[3].L[0], l[4].L[0]}
	var pieces []named.Patch // all rows are pieces of one
	for k := range row {
		pieces = append(pieces, named.Patch{Id: k + 1, Note: "n", L: row[k : k+1]})
	}
	return [][]named.Patch{one, shared, pieces}
}

func TestPatchesOfTheirOwn(t *testing.T) { // R5, R6
	for _, c := range told {
		for i := range roomyLists() {
			given := roomyLists()[i]
			if got, _ := named.Group(given); !slices.Equal(ids(got), []int{1, 3}) {
				t.Fatalf("the group of list %d is %v", i, ids(got))
			}
			was := copiedAll(given)
			kept := c.call(given)
			var want [][]named.Patch
			for _, l := range kept {
				want = append(want, copiedAll(l))
			}
			answer := c.call(given)
			for k, l := range answer { // no two lists of one answer share, nor two patches of one list
				for at := range l {
					spoil(l[at])
					if !allAlike(l[at+1:], want[k][at+1:]) {
						t.Fatalf("%s(%v): patches of one list share", c.name, was)
					}
				}
				spoilAll(l)
				for other := k + 1; other < len(answer); other++ {
					if !allAlike(answer[other], want[other]) {
						t.Fatalf("%s(%v): lists of one answer share", c.name, was)
					}
				}
			}
			if !allAlike(given, was) || i == 0 && roomIsWritten(given) {
				t.Fatalf("what %s told of %v, written into, has it be %v", c.name, was, given)
			}
			spoilAll(given)
			for k := range kept {
				if !allAlike(kept[k], want[k]) {
					t.Fatalf("%s of %v, written into, is %v, not %v", c.name, was, kept[k], want[k])
				}
			}
		}
	}
}

func TestRowsOfOnePatchDoNotShare(t *testing.T) { // R6
	for _, c := range told {
		for i := range roomyLists() {
			given := roomyLists()[i]
			want := c.call(given)
			for k, l := range c.call(given) {
				for at, p := range l {
					for n, q := range p.L {
						room := q.Old[:cap(q.Old)]
						for line := range room {
							room[line] = "written"
						}
						if !slices.Equal(q.New, want[k][at].L[n].New) {
							t.Fatalf("%s: Old and New of %v share", c.name, q)
						}
						room = q.New[:cap(q.New)]
						for line := range room {
							room[line] = "written"
						}
						for next := n + 1; next < len(p.L); next++ {
							if !slices.Equal(p.L[next].Old, want[k][at].L[next].Old) || !slices.Equal(p.L[next].New, want[k][at].L[next].New) {
								t.Fatalf("%s: prims of %v share", c.name, p)
							}
						}
					}
				}
			}
		}
	}
}

func TestTheSameAlways(t *testing.T) { // R7
	for _, c := range told {
		for i := range roomyLists() {
			given := roomyLists()[i]
			want := c.call(given)
			for range 5 {
				got := c.call(given)
				for k := range want {
					if !allAlike(got[k], want[k]) {
						t.Fatalf("%s tells %v, and then %v", c.name, want, got)
					}
				}
			}
		}
	}
}
