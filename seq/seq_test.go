package seq_test

import (
	"fmt"
	"maps"
	"math"
	"slices"
	"strings"
	"testing"

	"quiltwork/api"
	"quiltwork/prim"
	"quiltwork/seq"
	"quiltwork/swap"
	"quiltwork/tree"
)

var longest = strings.Repeat("n", api.MaxName)

// hunk is a hunk whose lines are written with blanks between them.
func hunk(name string, at int, old, with string) prim.Prim {
	return prim.Prim{Kind: prim.Hunk, Name: name, At: at, Old: strings.Fields(old), New: strings.Fields(with)}
}

func add(name string) prim.Prim { return prim.Prim{Kind: prim.Add, Name: name} }

func rm(name string) prim.Prim { return prim.Prim{Kind: prim.Rm, Name: name} }

func move(name, to string) prim.Prim { return prim.Prim{Kind: prim.Move, Name: name, To: to} }

// row is a row of prims, to be written short.
func row(l ...prim.Prim) []prim.Prim { return l }

// copied is a row that shares nothing with l, without a call of the program.
func copied(l []prim.Prim) []prim.Prim {
	var out []prim.Prim
	for _, p := range l {
		p.Old = append([]string{}, p.Old...)
		p.New = append([]string{}, p.New...)
		out = append(out, p)
	}
	return out
}

// alike tells whether both rows have the same in all fields, without a call of the program.
func alike(a, b []prim.Prim) bool {
	return slices.EqualFunc(a, b, func(p, q prim.Prim) bool {
		return p.Kind == q.Kind && p.Name == q.Name && p.To == q.To && p.At == q.At && slices.Equal(p.Old, q.Old) && slices.Equal(p.New, q.New)
	})
}

// files is a tree in another way: what trees are built of.
type files map[string]string

// of builds a tree of these files, whose lines are written with blanks between them.
func of(t testing.TB, f files) *tree.Tree {
	t.Helper()
	x := tree.New()
	for name, lines := range f {
		if x.Add(name) != api.OK || x.Put(name, strings.Fields(lines)) != api.OK {
			t.Fatalf("no tree of %q", f)
		}
	}
	return x
}

// made is a copy of the tree with the rows applied, prim by prim, without a call of the package; nil, if one does not fit.
func made(x *tree.Tree, rows ...[]prim.Prim) *tree.Tree {
	x = x.Copy()
	for _, p := range slices.Concat(rows...) {
		if prim.Apply(x, p) != api.OK {
			return nil
		}
	}
	return x
}

// wrong are prims that are not right, of each kind, and of none.
func wrong() []prim.Prim {
	return row(
		prim.Prim{},
		prim.Prim{Kind: -1, Name: "e"},
		prim.Prim{Kind: 4, Name: "e"},
		prim.Prim{Kind: math.MaxInt, Name: "e", To: "f", New: []string{"x"}},
		hunk("e", 9, "x", "x"),
		hunk("e", -1, "", "x"),
		hunk("e", prim.Far+1, "", "x"),
		hunk("E", 9, "", "x"),
		prim.Prim{Kind: prim.Hunk, Name: "e", New: []string{"x\n"}},
		add(""),
		rm("e "),
		prim.Prim{Kind: prim.Add, Name: "e", At: 1},
		move("e", "e"),
		move("e", ""),
	)
}

func TestRight(t *testing.T) { // P5.1
	for _, l := range [][]prim.Prim{
		nil,
		{},
		row(add("a")),
		row(hunk("a", prim.Far, "", "x")),
		row(add("a"), hunk("a", 0, "", "x"), move("a", "b"), hunk("b", 0, "x", ""), rm("b")),
		row(rm("a"), rm("a"), rm("a")), // that fits no tree
	} {
		if !seq.Right(l) {
			t.Errorf("Right(%v) = false", l)
		}
	}
	for _, p := range wrong() {
		for _, l := range [][]prim.Prim{
			row(p),
			row(p, p),
			row(p, add("a"), rm("a")),
			row(add("a"), p, rm("a")),
			row(add("a"), rm("a"), p),
		} {
			if seq.Right(l) {
				t.Errorf("Right(%v) = true", l)
			}
		}
	}
}

func TestSame(t *testing.T) { // P5.1
	unlike := [][]prim.Prim{
		nil,
		row(prim.Prim{}),
		row(prim.Prim{}, prim.Prim{}),
		row(prim.Prim{Kind: 9}),
		row(add("a")),
		row(add("b")),
		row(rm("a")),
		row(add("a"), add("b")),
		row(add("b"), add("a")),
		row(add("a"), add("a")),
		row(add("a"), rm("b")),
		row(add("a"), add("b"), add("c")),
		row(add("a"), hunk("a", 0, "", "x")),
		row(add("a"), hunk("a", 1, "", "x")),
		row(add("a"), hunk("a", 0, "x", "")),
		row(add("a"), hunk("a", 0, "", "x x")),
		row(add("a"), hunk("a", 0, "", "y")),
		row(move("a", "b")),
		row(move("b", "a")),
	}
	for i, a := range unlike {
		for k, b := range unlike {
			if is := seq.Same(a, copied(b)); is != (i == k) {
				t.Errorf("Same(%v, %v) = %v", a, b, is)
			}
		}
	}
	if !seq.Same(nil, []prim.Prim{}) || !seq.Same([]prim.Prim{}, nil) {
		t.Error("Same: an empty row is not as good as none")
	}
	if !seq.Same(row(prim.Prim{Old: []string{}}), row(prim.Prim{New: []string{}})) {
		t.Error("Same: no lines are not as good as none")
	}
}

func TestInvert(t *testing.T) { // P5.1
	for _, x := range []struct{ l, want []prim.Prim }{
		{nil, nil},
		{[]prim.Prim{}, nil},
		{row(add("a")), row(rm("a"))},
		{row(move("a", "b")), row(move("b", "a"))},
		{row(hunk("a", 3, "x", "y z"), rm("b")), row(add("b"), hunk("a", 3, "y z", "x"))},
		{row(add("a"), hunk("a", 0, "", "x"), move("a", "b")), row(move("b", "a"), hunk("a", 0, "x", ""), rm("a"))},
		{row(prim.Prim{Kind: 9, Name: "a"}, add(""), hunk("a", -1, "x", "")), row(hunk("a", -1, "", "x"), rm(""), prim.Prim{Kind: 9, Name: "a"})},
	} {
		was := copied(x.l)
		if got := seq.Invert(x.l); !alike(got, x.want) {
			t.Errorf("Invert(%v) = %v, want %v", x.l, got, x.want)
		}
		if got := seq.Invert(seq.Invert(x.l)); !alike(got, x.l) {
			t.Errorf("Invert(Invert(%v)) = %v", x.l, got)
		}
		if !alike(x.l, was) {
			t.Errorf("Invert changes %v to %v", was, x.l)
		}
	}
}

func TestNames(t *testing.T) { // P5.1
	for _, x := range []struct {
		l    []prim.Prim
		want []string
	}{
		{nil, nil},
		{[]prim.Prim{}, nil},
		{row(add("a")), []string{"a"}},
		{row(move("b", "a")), []string{"a", "b"}},
		{row(add("b"), add("a")), []string{"a", "b"}},
		{row(add("a"), hunk("a", 0, "", "x"), hunk("a", 5, "x", "")), []string{"a"}},
		{row(add("c"), move("b", "a"), hunk("c", 0, "", "x"), move("a", "b"), rm("a")), []string{"a", "b", "c"}},
		{row(move("c", "d"), hunk("a", 0, "", "x"), move("d", "b"), hunk("b", 0, "x", ""), move("b", "c")), []string{"a", "b", "c", "d"}},
		{row(rm("9"), rm("10"), rm("a-b"), rm("a/b"), rm("a"), rm("9")), []string{"10", "9", "a", "a-b", "a/b"}}, // byte by byte
		{row(add(longest), rm(longest[1:]), add(longest)), []string{longest[1:], longest}},
		{row(add("a"), prim.Prim{}, move("B", ""), prim.Prim{Kind: 9, Name: "b", To: "c"}), []string{"", "B", "a", "b"}}, // of prims that are not right, too
	} {
		was := copied(x.l)
		got := seq.Names(x.l)
		if !slices.Equal(got, x.want) {
			t.Errorf("Names(%v) = %q, want %q", x.l, got, x.want)
		}
		if inverted := seq.Names(seq.Invert(x.l)); !slices.Equal(inverted, x.want) {
			t.Errorf("Names(Invert(%v)) = %q, want %q", x.l, inverted, x.want)
		}
		if !alike(x.l, was) {
			t.Errorf("Names changes %v to %v", was, x.l)
		}
		for i := range got {
			got[i] = "written"
		}
		if got = seq.Names(x.l); !slices.Equal(got, x.want) || !alike(x.l, was) { // R6
			t.Errorf("Names(%v), written into: another answer is %q", x.l, got)
		}
	}
}

func TestTouches(t *testing.T) { // P5.1
	l := row(hunk("src/b", 0, "", "x"), add("doc"), move("old/a", "new/a"), rm("z"), hunk("src/b", 9, "x", ""))
	for _, prefix := range []string{
		"", "s", "src", "src/", "src/b", "d", "do", "doc", "o", "old/a", "old/", "n", "new/a", "z",
	} {
		if !seq.Touches(l, prefix) {
			t.Errorf("Touches(l, %q) = false", prefix)
		}
	}
	for _, prefix := range []string{
		"src/b/", "src/ba", "docs", "doc/", "zz", "old/ab", // longer than a name
		"a", "b", "/", "rc", "oc", "ld/a", "/b", // within a name, but not at its beginning
		"src/a", "x", "S", "Doc", "\n", " ", longest, longest + longest,
	} {
		if seq.Touches(l, prefix) {
			t.Errorf("Touches(l, %q) = true", prefix)
		}
	}
	for _, prefix := range []string{"", "a", "src/b"} {
		if seq.Touches(nil, prefix) || seq.Touches([]prim.Prim{}, prefix) {
			t.Errorf("Touches(nothing, %q) = true", prefix)
		}
	}
	if !seq.Touches(row(prim.Prim{}), "") || seq.Touches(row(prim.Prim{}), "a") || !seq.Touches(row(prim.Prim{Kind: 9, Name: "A"}), "A") {
		t.Error("Touches of prims that are not right")
	}
}

// start is the tree that rows are applied to here.
func start() files { return files{"a": "x y z", "b": "", "c": "p"} }

func TestApply(t *testing.T) { // P5.1, P5.5
	for _, x := range []struct {
		l    []prim.Prim
		want files
	}{
		{nil, start()},
		{[]prim.Prim{}, start()},
		{row(rm("b")), files{"a": "x y z", "c": "p"}},
		{row(hunk("a", 1, "y", "q r")), files{"a": "x q r z", "b": "", "c": "p"}},
		{row(hunk("a", 0, "x", ""), hunk("a", 0, "y", "q"), hunk("a", 1, "z", "")), files{"a": "q", "b": "", "c": "p"}},
		{row(hunk("c", 0, "p", ""), rm("c"), move("a", "c"), add("a"), hunk("a", 0, "", "r")), files{"a": "r", "b": "", "c": "x y z"}},
		{row(move("a", "d"), move("c", "a"), move("d", "c"), hunk("c", 3, "", "e")), files{"a": "p", "b": "", "c": "x y z e"}},
		{row(add("d"), rm("d"), add("d"), rm("d")), start()},
	} {
		y, was := of(t, start()), copied(x.l)
		if e := seq.Apply(y, x.l); e != api.OK || y.Text() != of(t, x.want).Text() {
			t.Errorf("Apply(%v) = %d, %q", x.l, e, y.Text())
		}
		if e := seq.Apply(y, seq.Invert(x.l)); e != api.OK || y.Text() != of(t, start()).Text() {
			t.Errorf("Apply(Invert(%v)) = %d, %q", x.l, e, y.Text())
		}
		if !alike(x.l, was) { // R5
			t.Errorf("Apply changes %v to %v", was, x.l)
		}
	}
}

func TestApplyThatFails(t *testing.T) { // P5.1: the first error is told, and the tree is as it was ahead of all
	fits := row(hunk("a", 1, "y", "q r"), move("a", "d"), rm("b"), add("a"), hunk("d", 0, "x", ""), hunk("a", 0, "", "s"), hunk("c", 0, "p", ""), rm("c"), move("d", "c"))
	bad := []struct {
		p prim.Prim
		e api.Errno
	}{
		{prim.Prim{}, api.ErrPrimForm},
		{prim.Prim{Kind: 9, Name: "a"}, api.ErrPrimForm},
		{move("e", "e"), api.ErrPrimForm},
		{hunk("a", -1, "", "x"), api.ErrPrimForm},
		{hunk("e", 0, "", "x"), api.ErrPrimFits},
		{hunk("a", 7, "", "x"), api.ErrPrimFits},
		{rm("e"), api.ErrPrimFits},
		{move("e", "f"), api.ErrPrimFits},
	}
	if made(of(t, start()), fits) == nil {
		t.Fatal("the row does not fit")
	}
	for k := range len(fits) + 1 {
		for _, b := range bad {
			for _, other := range bad { // behind the first one, another one that fails
				for _, l := range [][]prim.Prim{
					slices.Concat(fits[:k], row(b.p), fits[k:]),
					slices.Concat(fits[:k], row(b.p), fits[k:], row(other.p)),
					slices.Concat(fits[:k], row(b.p, other.p)),
				} {
					x, was := of(t, start()), copied(l)
					if e := seq.Apply(x, l); e != b.e || x.Text() != of(t, start()).Text() || !tree.Same(x, of(t, start())) {
						t.Fatalf("Apply(%v) = %d, %q, want %d", l, e, x.Text(), b.e)
					}
					if !alike(l, was) {
						t.Fatalf("Apply changes %v to %v", was, l)
					}
				}
			}
		}
	}
	x := of(t, start())
	for _, b := range bad {
		seq.Apply(x, slices.Concat(fits, row(b.p)))
	}
	if e := seq.Apply(x, fits); e != api.OK || !tree.Same(x, made(of(t, start()), fits)) {
		t.Errorf("Apply behind some that failed = %d, %q", e, x.Text())
	}
}

func TestApplyThatFailsByWhatIsAhead(t *testing.T) { // P5.1: a prim that fitted alone, but for those ahead of it
	for _, l := range [][]prim.Prim{
		row(hunk("a", 0, "x", ""), hunk("a", 0, "x", "")),
		row(rm("b"), rm("b")),
		row(hunk("b", 0, "", "x"), rm("b")),
		row(move("b", "d"), hunk("b", 0, "", "x")),
		row(add("d"), add("e"), move("d", "e")),
		row(hunk("a", 0, "x y z", ""), rm("a"), add("a"), hunk("a", 0, "x", "")),
	} {
		x := of(t, start())
		if e := seq.Apply(x, l); e != api.ErrPrimFits || x.Text() != of(t, start()).Text() {
			t.Errorf("Apply(%v) = %d, %q", l, e, x.Text())
		}
	}
}

// held holds what Swap tells of l and m against what is wanted.
func held(t *testing.T, l, m, first, second []prim.Prim, is bool) {
	t.Helper()
	wasL, wasM := copied(l), copied(m)
	a, b, ok := seq.Swap(l, m)
	if ok != is || !alike(a, first) || !alike(b, second) {
		t.Errorf("Swap(%v, %v) = %v, %v, %v, want %v, %v, %v", l, m, a, b, ok, first, second, is)
	}
	if !alike(l, wasL) || !alike(m, wasM) { // R5
		t.Errorf("Swap changes %v, %v to %v, %v", wasL, wasM, l, m)
	}
}

func TestSwap(t *testing.T) { // P5.2
	for _, w := range []struct{ l, m, first, second []prim.Prim }{
		{nil, nil, nil, nil},
		{[]prim.Prim{}, nil, nil, nil},
		{row(hunk("a", 0, "x", "")), row(hunk("a", 5, "y", "z")), row(hunk("a", 6, "y", "z")), row(hunk("a", 0, "x", ""))},
		// The last one of l is below m, the first one above it.
		{row(hunk("a", 0, "x", "p p"), hunk("a", 9, "y", "")), row(hunk("a", 4, "", "q")), row(hunk("a", 3, "", "q")), row(hunk("a", 0, "x", "p p"), hunk("a", 10, "y", ""))},
		// Each one of l counts with what it was, not with what the others are.
		{row(hunk("a", 0, "", "x"), hunk("a", 2, "", "x x")), row(hunk("a", 9, "y", ""), hunk("a", 19, "y", "")), row(hunk("a", 6, "y", ""), hunk("a", 16, "y", "")), row(hunk("a", 0, "", "x"), hunk("a", 2, "", "x x"))},
		{row(hunk("a", 9, "y", ""), hunk("a", 19, "y", "")), row(hunk("a", 0, "", "x"), hunk("a", 2, "", "x x")), row(hunk("a", 0, "", "x"), hunk("a", 2, "", "x x")), row(hunk("a", 12, "y", ""), hunk("a", 22, "y", ""))},
		// Files that move.
		{row(hunk("a", 0, "", "x"), hunk("b", 0, "", "x")), row(move("a", "c"), move("b", "a")), row(move("a", "c"), move("b", "a")), row(hunk("c", 0, "", "x"), hunk("a", 0, "", "x"))},
		{row(move("a", "c"), move("b", "d")), row(hunk("c", 0, "", "x"), hunk("d", 3, "", "y"), hunk("c", 2, "", "z")), row(hunk("a", 0, "", "x"), hunk("b", 3, "", "y"), hunk("a", 2, "", "z")), row(move("a", "c"), move("b", "d"))},
		{row(move("a", "b"), move("b", "c")), row(hunk("c", 7, "x", "")), row(hunk("a", 7, "x", "")), row(move("a", "b"), move("b", "c"))},
		{row(hunk("a", 7, "x", "")), row(move("a", "b"), move("b", "c")), row(move("a", "b"), move("b", "c")), row(hunk("c", 7, "x", ""))},
		// Files that have nothing to do with one another.
		{row(add("a"), hunk("a", 0, "", "x")), row(rm("b"), move("c", "b")), row(rm("b"), move("c", "b")), row(add("a"), hunk("a", 0, "", "x"))},
		// What touches within a row is no matter.
		{row(hunk("a", 0, "x", "y"), hunk("a", 0, "y", "z z")), row(hunk("a", 5, "q", ""), hunk("a", 5, "", "r")), row(hunk("a", 4, "q", ""), hunk("a", 4, "", "r")), row(hunk("a", 0, "x", "y"), hunk("a", 0, "y", "z z"))},
		// A place that goes to Far, and one that lies there and is led beyond by none.
		{row(hunk("a", 0, "x", ""), hunk("b", 0, "x", "")), row(hunk("a", prim.Far-1, "", "y")), row(hunk("a", prim.Far, "", "y")), row(hunk("a", 0, "x", ""), hunk("b", 0, "x", ""))},
		{row(hunk("a", 0, "x", ""), hunk("a", 5, "", "x")), row(hunk("a", prim.Far, "", "y")), row(hunk("a", prim.Far, "", "y")), row(hunk("a", 0, "x", ""), hunk("a", 5, "", "x"))},
	} {
		held(t, w.l, w.m, w.first, w.second, true)
		held(t, w.first, w.second, w.l, w.m, true) // P5.5
	}
}

func TestSwapOfEmptyRows(t *testing.T) { // P5.2: no two have to be swapped, whatever they are
	some := [][]prim.Prim{nil, {}, row(add("a")), row(hunk("a", 0, "x", "y"), hunk("a", 0, "y", "x"), move("a", "b")), wrong(), row(wrong()[0])}
	for _, l := range some {
		for _, none := range [][]prim.Prim{nil, {}} {
			held(t, none, l, l, nil, true)
			held(t, l, none, nil, l, true)
		}
	}
}

func TestRowsThatDoNotSwap(t *testing.T) { // P5.2
	free := row(hunk("a", 20, "x", "y"), add("d"), move("e", "f"))
	for _, w := range []struct{ p, q prim.Prim }{
		{hunk("a", 0, "x", "y"), hunk("a", 0, "y", "x")},
		{hunk("a", 0, "x", "y"), hunk("a", 1, "z", "")}, // they touch
		{hunk("a", 3, "", "y"), hunk("a", 2, "z", "")},
		{add("b"), hunk("b", 0, "", "x")},
		{hunk("b", 0, "x", ""), rm("b")},
		{rm("b"), add("b")},
		{move("b", "c"), move("c", "b")},
		{move("b", "c"), add("b")},
		{hunk("c", 0, "x", ""), move("b", "c")},
		{hunk("b", 0, "x", ""), hunk("b", prim.Far, "", "x")}, // that would lie beyond Far
	} {
		held(t, row(w.p), row(w.q), nil, nil, false)
		for k := range len(free) + 1 { // in part: one pair of many, wherever it stands
			l := slices.Insert(slices.Clone(free), k, w.p)
			held(t, l, row(w.q), nil, nil, false)
			for i := range len(free) + 1 {
				m := slices.Insert(row(hunk("g", 0, "", "x"), add("h"), rm("i")), i, w.q)
				held(t, l, m, nil, nil, false)
				held(t, row(w.p), m, nil, nil, false)
			}
		}
		held(t, row(w.p, w.p, w.p), row(w.q, w.q), nil, nil, false)
	}
	for _, p := range wrong() { // that is not right swaps with none
		for _, l := range [][]prim.Prim{row(p), row(add("a"), p), row(p, add("a")), row(p, p), row(add("a"), p, rm("a"))} {
			for _, m := range [][]prim.Prim{row(add("b")), row(hunk("b", 0, "", "x"), add("c")), row(p)} {
				held(t, l, m, nil, nil, false)
				held(t, m, l, nil, nil, false)
			}
		}
	}
	p, q := hunk("a", 0, "x", ""), hunk("a", 5, "", "x")
	held(t, row(q, p), row(hunk("a", prim.Far, "", "y")), nil, nil, false) // the last one alone leads beyond Far, though both do not
}

// byPairs tells l and m in the other order by swaps of neighbours in one row: each one of m, the first one first, goes ahead of all of l.
func byPairs(l, m []prim.Prim) (first, second []prim.Prim, is bool) {
	all := slices.Concat(l, m)
	for k := range m {
		for at := k + len(l); at > k; at-- {
			all[at-1], all[at], is = swap.Swap(all[at-1], all[at])
			if !is {
				return nil, nil, false
			}
		}
	}
	return all[:len(m)], all[len(m):], true
}

// small are the prims that rows of all kinds are made of here.
func small() []prim.Prim {
	return row(
		hunk("a", 0, "", "x x"), hunk("a", 3, "x", ""), hunk("a", 3, "x", "y"), hunk("a", 6, "x", "y z"), hunk("b", 0, "x", ""),
		add("a"), add("b"), rm("a"), move("a", "b"), move("b", "a"), move("b", "c"), hunk("a", prim.Far, "", "x"), prim.Prim{Kind: prim.Add, Name: "b", At: 1},
	)
}

// rows are all rows of up to two prims of these, and some of three.
func rows(of []prim.Prim) [][]prim.Prim {
	all := [][]prim.Prim{nil}
	for i, p := range of {
		all = append(all, row(p))
		for k, q := range of {
			all = append(all, row(p, q))
			if (i+k)%4 == 0 {
				all = append(all, row(p, q, of[(i*k)%len(of)]))
			}
		}
	}
	return all
}

func TestSwapByPairs(t *testing.T) { // P5.2, P5.5
	swapped, not := 0, 0
	for _, l := range rows(small()) {
		for _, m := range rows(small()) {
			first, second, is := byPairs(l, m)
			held(t, l, m, first, second, is || len(l)*len(m) == 0)
			if !is {
				not++
				continue
			}
			swapped++
			held(t, first, second, l, m, true)
		}
	}
	if swapped < 1000 || not < 1000 {
		t.Errorf("%d pairs of rows that swap, %d that do not", swapped, not)
	}
}

func TestRebase(t *testing.T) { // P5.3
	for _, w := range []struct {
		m, l, want []prim.Prim
		is         bool
	}{
		{nil, nil, nil, true},
		{row(add("a"), rm("b")), nil, row(add("a"), rm("b")), true},
		{wrong(), nil, wrong(), true},
		{nil, row(add("a"), rm("b")), nil, true},
		{nil, wrong(), nil, true},
		{row(hunk("a", 5, "y", "z")), row(hunk("a", 0, "x", "")), row(hunk("a", 4, "y", "z")), true},
		{row(hunk("a", 4, "", "q")), row(hunk("a", 0, "x", "p p")), row(hunk("a", 5, "", "q")), true},
		{row(hunk("a", 0, "x", "")), row(hunk("a", 5, "y", "z z")), row(hunk("a", 0, "x", "")), true},
		{row(hunk("a", 4, "", "q"), hunk("a", 5, "r", "")), row(hunk("a", 0, "x", "p p"), hunk("a", 0, "", "s"), hunk("a", 9, "t", "")), row(hunk("a", 6, "", "q"), hunk("a", 7, "r", "")), true},
		{row(hunk("a", 4, "", "q"), move("c", "d")), row(move("a", "b"), hunk("c", 0, "x", "y")), row(hunk("b", 4, "", "q"), move("c", "d")), true},
		{row(move("a", "b")), row(hunk("a", 4, "", "q")), row(move("a", "b")), true},
		{row(add("b"), hunk("b", 0, "", "x")), row(rm("a"), add("c")), row(add("b"), hunk("b", 0, "", "x")), true},
		{row(hunk("a", prim.Far-1, "", "q")), row(hunk("a", 0, "", "x")), row(hunk("a", prim.Far, "", "q")), true},
		{row(hunk("a", prim.Far, "", "q")), row(hunk("a", 0, "", "x")), nil, false}, // beyond Far
		{row(hunk("a", 0, "x", "q")), row(hunk("a", 0, "x", "p p")), nil, false},
		{row(hunk("a", 0, "x", "q")), row(hunk("a", 0, "x", "q")), nil, false}, // the same, too
		{row(hunk("b", 0, "", "x"), hunk("a", 1, "", "q")), row(hunk("a", 0, "x", "p p")), nil, false},
		{row(hunk("a", 1, "", "q"), hunk("b", 0, "", "x")), row(hunk("c", 0, "x", "y"), hunk("a", 0, "x", "p p")), nil, false},
		{row(add("a")), row(add("a")), nil, false},
		{row(rm("a")), row(hunk("a", 0, "", "x")), nil, false},
		{row(hunk("a", 0, "", "x")), row(rm("a")), nil, false},
		{row(move("a", "b")), row(add("b")), nil, false},
		{row(move("a", "b")), row(move("a", "c")), nil, false},
		{row(add("a")), row(prim.Prim{}), nil, false},
		{row(prim.Prim{}), row(add("a")), nil, false},
	} {
		wasM, wasL := copied(w.m), copied(w.l)
		if got, is := seq.Rebase(w.m, w.l); is != w.is || !alike(got, w.want) {
			t.Errorf("Rebase(%v, %v) = %v, %v, want %v, %v", w.m, w.l, got, is, w.want, w.is)
		}
		if !alike(w.m, wasM) || !alike(w.l, wasL) { // R5
			t.Errorf("Rebase changes %v, %v to %v, %v", wasM, wasL, w.m, w.l)
		}
	}
}

// undone is what undoes a row, without a call of the package.
func undone(l []prim.Prim) []prim.Prim {
	var out []prim.Prim
	for _, p := range l {
		out = slices.Insert(out, 0, prim.Invert(p))
	}
	return out
}

func TestRebaseIsSwapOfInvert(t *testing.T) { // P5.3
	told, not := 0, 0
	for _, l := range rows(small()) {
		for _, m := range rows(small()) {
			want, _, is := byPairs(undone(l), m)
			if len(l)*len(m) == 0 {
				want, is = m, true
			}
			if got, ok := seq.Rebase(m, l); ok != is || !alike(got, want) {
				t.Errorf("Rebase(%v, %v) = %v, %v, want %v, %v", m, l, got, ok, want, is)
			}
			if is {
				told++
			} else {
				not++
			}
		}
	}
	if told < 1000 || not < 1000 {
		t.Errorf("%d rows that are rebased, %d that are not", told, not)
	}
}

// chosen tells a function that wants the places that have a w in a text of signs.
func chosen(signs string) func(int, prim.Prim) bool {
	return func(k int, p prim.Prim) bool { return signs[k] == 'w' }
}

func TestSplit(t *testing.T) { // P5.4
	a0, b0, a4, b1 := hunk("a", 0, "x", ""), hunk("b", 0, "", "q"), hunk("a", 4, "", "p"), hunk("b", 0, "q", "r")
	l := row(a0, b0, a4, b1)
	for _, w := range []struct {
		l           []prim.Prim
		signs       string
		first, rest []prim.Prim
	}{
		{nil, "", nil, nil},
		{[]prim.Prim{}, "", nil, nil},
		{row(a0), ".", nil, row(a0)},
		{row(a0), "w", row(a0), nil},
		{l, "....", nil, l},
		{l, "wwww", l, nil},
		{l, "w...", row(a0), row(b0, a4, b1)},
		{l, ".w..", row(b0), row(a0, a4, b1)},
		{l, "..w.", row(hunk("a", 5, "", "p")), row(a0, b0, b1)}, // another place, ahead of a0
		{l, "...w", nil, l},                                      // b1 needs b0, which is not wanted
		{l, ".w.w", row(b0, b1), row(a0, a4)},
		{l, "..ww", row(hunk("a", 5, "", "p")), row(a0, b0, b1)},
		{l, "w.ww", row(a0, a4), row(b0, b1)},
		{l, ".www", row(b0, hunk("a", 5, "", "p"), b1), row(a0)},
		// What is not wanted changes, too; and those behind count with what it has become.
		{row(hunk("a", 9, "x", ""), hunk("a", 0, "", "p"), hunk("a", 12, "", "q")), ".w.", row(hunk("a", 0, "", "p")), row(hunk("a", 10, "x", ""), hunk("a", 12, "", "q"))},
		{row(hunk("a", 9, "x", ""), hunk("a", 0, "", "p"), hunk("a", 12, "", "q")), ".ww", row(hunk("a", 0, "", "p"), hunk("a", 13, "", "q")), row(hunk("a", 10, "x", ""))},
		{row(hunk("a", 9, "x", ""), hunk("a", 0, "", "p"), hunk("a", 10, "", "q")), ".ww", row(hunk("a", 0, "", "p")), row(hunk("a", 10, "x", ""), hunk("a", 10, "", "q"))}, // they touch
		{row(hunk("a", 2, "", "x"), move("a", "b"), hunk("b", 9, "y", "")), ".w.", row(move("a", "b")), row(hunk("b", 2, "", "x"), hunk("b", 9, "y", ""))},
		{row(hunk("a", 2, "", "x"), move("a", "b"), hunk("b", 9, "y", "")), ".ww", row(move("a", "b"), hunk("b", 8, "y", "")), row(hunk("b", 2, "", "x"))},
		{row(hunk("a", 2, "", "x"), move("a", "b"), hunk("b", 9, "y", "")), "..w", row(hunk("a", 8, "y", "")), row(hunk("a", 2, "", "x"), move("a", "b"))},
		// One that is wanted but stays holds up others that need it, and no more.
		{row(add("a"), hunk("a", 0, "", "x"), hunk("b", 0, "", "y"), hunk("a", 1, "", "z")), ".www", row(hunk("b", 0, "", "y")), row(add("a"), hunk("a", 0, "", "x"), hunk("a", 1, "", "z"))},
		// It would swap past the last one of rest, but not past the first one: rest stays as it is.
		{row(hunk("a", 0, "x", "y"), hunk("a", 9, "", "p"), hunk("a", 0, "y", "z z")), "..w", nil, row(hunk("a", 0, "x", "y"), hunk("a", 9, "", "p"), hunk("a", 0, "y", "z z"))},
		// Prims that are not right swap with none, and go ahead where there is none.
		{row(prim.Prim{}, add("a"), prim.Prim{}), "www", row(prim.Prim{}, add("a"), prim.Prim{}), nil},
		{row(add("a"), prim.Prim{}, add("b")), ".ww", nil, row(add("a"), prim.Prim{}, add("b"))},
		{row(add("a"), prim.Prim{}, add("b")), "w.w", row(add("a")), row(prim.Prim{}, add("b"))},
		// A place beyond Far.
		{row(hunk("a", 0, "x", ""), hunk("a", prim.Far, "", "y")), ".w", nil, row(hunk("a", 0, "x", ""), hunk("a", prim.Far, "", "y"))},
	} {
		was := copied(w.l)
		if first, rest := seq.Split(w.l, chosen(w.signs)); !alike(first, w.first) || !alike(rest, w.rest) {
			t.Errorf("Split(%v, %s) = %v, %v, want %v, %v", w.l, w.signs, first, rest, w.first, w.rest)
		}
		if !alike(w.l, was) { // R5
			t.Errorf("Split changes %v to %v", was, w.l)
		}
	}
}

func TestSplitByNone(t *testing.T) { // P5.4, R1: nobody is there who wants something
	l := row(add("a"), hunk("a", 0, "", "x"))
	if first, rest := seq.Split(l, nil); len(first) != 0 || !alike(rest, l) {
		t.Errorf("Split(l, nil) = %v, %v", first, rest)
	}
}

func TestWhatIsHandedToWanted(t *testing.T) { // P5.4: places and prims, once each, in order, as they are in l
	l := row(hunk("a", 9, "x", ""), hunk("a", 0, "", "p"), hunk("a", 12, "", "q"), add("b"), hunk("b", 0, "", "r"), move("a", "c"), prim.Prim{Kind: 9})
	for signs := range 1 << len(l) {
		var places []int
		var prims []prim.Prim
		seq.Split(l, func(k int, p prim.Prim) bool {
			places, prims = append(places, k), append(prims, p)
			return signs>>k&1 == 1
		})
		if !slices.Equal(places, []int{0, 1, 2, 3, 4, 5, 6}) || !alike(prims, l) {
			t.Errorf("Split hands in %d, %v", places, prims)
		}
	}
	seq.Split(nil, func(k int, p prim.Prim) bool {
		t.Errorf("Split of nothing hands in %d, %v", k, p)
		return true
	})
}

func TestWantedThatWrites(t *testing.T) { // R5, R6: what is handed to wanted is its own; what it writes into the row comes too late
	was := row(hunk("a", 9, "x", "y"), hunk("a", 0, "w", "p"), hunk("b", 12, "v", "q"), hunk("b", 12, "q", "s"), hunk("a", 20, "t", "u"))
	for signs := range 1 << len(was) {
		wanted := func(k int, p prim.Prim) bool { return signs>>k&1 == 1 }
		first, rest := seq.Split(was, wanted)
		l := copied(was)
		a, b := seq.Split(l, func(k int, p prim.Prim) bool {
			p.Old[0], p.New[0] = "written", "written"
			p.Name = "z"
			return wanted(k, p)
		})
		if !alike(l, was) || !alike(a, first) || !alike(b, rest) {
			t.Errorf("what is handed in, written into: %v, %v, of %v", a, b, l)
		}
		a, b = seq.Split(l, func(k int, p prim.Prim) bool {
			for i := range l {
				l[i].Old[0], l[i].New[0] = "written", "written"
				l[i] = prim.Prim{Kind: 9, Old: l[i].Old, New: l[i].New}
			}
			return wanted(k, p)
		})
		if !alike(a, first) || !alike(b, rest) {
			t.Errorf("the row, written into by wanted: %v, %v", a, b)
		}
	}
}

// splitByRule tells by the chapter's words what Split tells, by swaps of neighbours.
func splitByRule(l []prim.Prim, wanted func(int) bool) (first, rest []prim.Prim) {
	for k, p := range l {
		all := append(slices.Clone(rest), p)
		is := wanted(k)
		for at := len(rest); is && at > 0; at-- {
			all[at-1], all[at], is = swap.Swap(all[at-1], all[at])
		}
		if is {
			first, rest = append(first, all[0]), all[1:]
		} else {
			rest = append(slices.Clone(rest), p)
		}
	}
	return first, rest
}

func TestSplitByRule(t *testing.T) { // P5.4
	brought := 0
	for _, l := range rows(small()) {
		for _, m := range rows(small()[:6]) {
			l := slices.Concat(l, m)
			for signs := range 1 << len(l) {
				if signs%3 == 1 && len(l) > 3 {
					continue // enough of them are left
				}
				first, rest := splitByRule(l, func(k int) bool { return signs>>k&1 == 1 })
				a, b := seq.Split(l, func(k int, p prim.Prim) bool { return signs>>k&1 == 1 })
				if !alike(a, first) || !alike(b, rest) {
					t.Fatalf("Split(%v, %b) = %v, %v, want %v, %v", l, signs, a, b, first, rest)
				}
				if len(first) > 0 && len(rest) > 0 {
					brought++
				}
			}
		}
	}
	if brought < 10000 {
		t.Errorf("%d rows were split in two", brought)
	}
}

// dice picks numbers, always the same ones: each is made of the one ahead of it.
type dice uint64

func (d *dice) pick(n int) int {
	*d = *d*6364136223846793005 + 1442695040888963407
	return int(uint64(*d) >> 33 % uint64(n))
}

// fitting is a prim that fits the tree, of five names.
func (d *dice) fitting(x *tree.Tree) prim.Prim {
	names := []string{"a", "b", "c", "d", "e"}
	for {
		name, to := names[d.pick(5)], names[d.pick(5)]
		l, is := x.Get(name)
		at := d.pick(len(l) + 1)
		end := min(at+d.pick(3), len(l))
		p := prim.Prim{Kind: prim.Hunk, Name: name, At: at, Old: l[at:end]}
		for range d.pick(3) {
			p.New = append(p.New, fmt.Sprint("l", d.pick(4)))
		}
		switch kind := d.pick(8); {
		case !is:
			p = add(name)
		case kind == 0:
			p = move(name, to)
		case kind == 1:
			p = rm(name)
		}
		if prim.Apply(x.Copy(), p) == api.OK {
			return p
		}
	}
}

// fittingRow is a row of up to n prims that fits the tree, and the tree that it makes.
func (d *dice) fittingRow(x *tree.Tree, n int) ([]prim.Prim, *tree.Tree) {
	var l []prim.Prim
	x = x.Copy()
	for range d.pick(n + 1) {
		p := d.fitting(x)
		prim.Apply(x, p)
		l = append(l, p)
	}
	return l, x
}

// wide is a tree with room for hunks that do not touch.
func wide(t testing.TB) *tree.Tree {
	return of(t, files{"a": "1 2 3 4 5 6 7 8 9 10 11 12 13 14 15", "b": "1 2 3 4 5 6 7 8 9", "c": "", "d": "1 1 1 1 1 1"})
}

func TestUndone(t *testing.T) { // P5.5
	d := dice(1)
	for range 3000 {
		x := wide(t)
		l, want := d.fittingRow(x, 9)
		if e := seq.Apply(x, l); e != api.OK || !tree.Same(x, want) {
			t.Fatalf("Apply(%v) = %d, %q, want %q", l, e, x.Text(), want.Text())
		}
		if e := seq.Apply(x, seq.Invert(l)); e != api.OK || x.Text() != wide(t).Text() {
			t.Fatalf("Apply(Invert(%v)) = %d, %q", l, e, x.Text())
		}
		// A row that fails at its end has been undone whole.
		if e := seq.Apply(x, append(slices.Clone(l), move("f", "g"))); e != api.ErrPrimFits || x.Text() != wide(t).Text() {
			t.Fatalf("Apply(%v), and one that does not fit = %d, %q", l, e, x.Text())
		}
	}
}

func TestSwappedRowsMakeTheSameTree(t *testing.T) { // P5.5
	d, swapped, kinds := dice(2), 0, map[int]int{}
	for range 20000 {
		x := wide(t)
		l, behindL := d.fittingRow(x, 4)
		m, want := d.fittingRow(behindL, 4)
		first, second, is := seq.Swap(l, m)
		if !is {
			continue
		}
		if got := made(x, first, second); got == nil || !tree.Same(got, want) {
			t.Fatalf("%v, %v swap to %v, %v, which do not make the same tree", l, m, first, second)
		}
		if a, b, is := seq.Swap(first, second); !is || !alike(a, l) || !alike(b, m) {
			t.Fatalf("%v, %v, swapped and swapped again, are %v, %v, %v", l, m, a, b, is)
		}
		if len(l) > 1 && len(m) > 1 {
			swapped++
			for _, p := range slices.Concat(l, m) {
				kinds[p.Kind]++
			}
		}
	}
	if swapped < 500 || len(kinds) != 4 || slices.Min(slices.Collect(maps.Values(kinds))) < 50 {
		t.Errorf("%d pairs of rows were swapped, of kinds %v", swapped, kinds)
	}
}

func TestBothOrdersOfMerging(t *testing.T) { // P5.5
	d, merged := dice(3), 0
	for range 20000 {
		x := wide(t)
		l, behindL := d.fittingRow(x, 4)
		m, behindM := d.fittingRow(x, 4)
		behind, is := seq.Rebase(m, l)
		other, ok := seq.Rebase(l, m)
		if is != ok {
			t.Fatalf("Rebase of %v and %v tells %v, the other way round %v", m, l, is, ok)
		}
		if !is {
			continue
		}
		one, two := made(behindL, behind), made(behindM, other)
		if one == nil || two == nil || !tree.Same(one, two) {
			t.Fatalf("%v and %v, merged, are %v and %v, which do not make the same tree", l, m, behind, other)
		}
		if len(l) > 1 && len(m) > 1 {
			merged++
		}
	}
	if merged < 500 {
		t.Errorf("%d pairs of rows were merged", merged)
	}
}

func TestWhatIsSplitMakesTheSameTree(t *testing.T) { // P5.5
	d, split, stayed := dice(4), 0, 0
	for range 20000 {
		x := wide(t)
		l, want := d.fittingRow(x, 8)
		signs, many := d.pick(1<<8), 0
		first, rest := seq.Split(l, func(k int, p prim.Prim) bool {
			many += signs >> k & 1
			return signs>>k&1 == 1
		})
		if got := made(x, first, rest); got == nil || !tree.Same(got, want) || len(first)+len(rest) != len(l) || len(first) > many {
			t.Fatalf("%v, split by %b, is %v, %v, which do not make the same tree", l, signs, first, rest)
		}
		if len(first) > 1 && len(rest) > 1 {
			split++
		}
		if len(first) < many {
			stayed++
		}
	}
	if split < 1000 || stayed < 1000 {
		t.Errorf("%d rows were split, in %d one that was wanted stayed", split, stayed)
	}
}

// roomy is a row with room behind it, and behind each row of lines, where a careless append would write.
func roomy(l ...prim.Prim) []prim.Prim {
	out := make([]prim.Prim, 0, len(l)+4)
	for _, p := range l {
		p.Old = append(make([]string, 0, len(p.Old)+4), p.Old...)
		p.New = append(make([]string, 0, len(p.New)+4), p.New...)
		out = append(out, p)
	}
	return out
}

// spoil writes into all that a row has, and into its room.
func spoil(l []prim.Prim) {
	l = l[:cap(l)]
	for k := range l {
		for _, lines := range [][]string{l[k].Old[:cap(l[k].Old)], l[k].New[:cap(l[k].New)]} {
			for i := range lines {
				lines[i] = "written"
			}
		}
		l[k] = prim.Prim{Kind: 9, Name: "written", Old: l[k].Old, New: l[k].New}
	}
}

// roomIsWritten tells whether something was written behind a row, or behind a row of lines.
func roomIsWritten(l []prim.Prim) bool {
	room := l[len(l):cap(l)]
	return slices.ContainsFunc(room, func(p prim.Prim) bool { return p.Name != "" || p.Kind != 0 }) ||
		slices.ContainsFunc(l, func(p prim.Prim) bool {
			return slices.Contains(p.Old[:cap(p.Old)], "written") || slices.Contains(p.New[:cap(p.New)], "written")
		})
}

// told are the calls that tell rows of two rows.
var told = []struct {
	name string
	call func(l, m []prim.Prim) [][]prim.Prim
}{
	{"Invert", func(l, m []prim.Prim) [][]prim.Prim { return [][]prim.Prim{seq.Invert(l), seq.Invert(m)} }},
	{"Swap", func(l, m []prim.Prim) [][]prim.Prim {
		first, second, _ := seq.Swap(l, m)
		return [][]prim.Prim{first, second}
	}},
	{"Rebase", func(l, m []prim.Prim) [][]prim.Prim {
		r, _ := seq.Rebase(m, l)
		return [][]prim.Prim{r}
	}},
	{"Split, none", func(l, m []prim.Prim) [][]prim.Prim { return splitBy(l, ".....") }},
	{"Split, all", func(l, m []prim.Prim) [][]prim.Prim { return splitBy(l, "wwwww") }},
	{"Split, some", func(l, m []prim.Prim) [][]prim.Prim { return splitBy(l, ".w.w.") }},
	{"Split, others", func(l, m []prim.Prim) [][]prim.Prim { return splitBy(m, "w..ww") }},
}

func splitBy(l []prim.Prim, signs string) [][]prim.Prim {
	first, rest := seq.Split(l, chosen(signs))
	return [][]prim.Prim{first, rest}
}

// roomyRows are pairs of rows that swap, with room, or that share lines.
func roomyRows() [][2][]prim.Prim {
	l := row(hunk("a", 0, "x y", "z"), move("d", "e"), hunk("a", 9, "", "p q"))
	m := row(hunk("b", 5, "x", "y"), hunk("c", 0, "r", "s t"), hunk("a", 4, "u", "v"))
	shared := append(make([]string, 0, 9), "x", "y", "z")
	sharing := func(name string) []prim.Prim {
		return []prim.Prim{
			{Kind: prim.Hunk, Name: name, At: 0, Old: shared[:1], New: shared[1:]},
			{Kind: prim.Hunk, Name: name, At: 9, Old: shared[1:2], New: shared[:2]},
			{Kind: prim.Hunk, Name: name, At: 20, Old: shared[:0], New: shared[2:]},
		}
	}
	one := roomy(hunk("a", 0, "x", "y"), hunk("b", 0, "x", "y"), hunk("c", 0, "x", "y"))
	return [][2][]prim.Prim{
		{roomy(l...), roomy(m...)},
		{roomy(l...), nil},
		{nil, roomy(m...)},
		{roomy(), roomy(m...)},
		{roomy(l...), roomy()},
		{sharing("a"), sharing("b")},
		{one[:1], one[1:]}, // two rows in one
	}
}

func TestRowsOfTheirOwn(t *testing.T) { // R5, R6
	for _, c := range told {
		for i := range roomyRows() {
			given := roomyRows()[i]
			was := [2][]prim.Prim{copied(given[0]), copied(given[1])}
			kept := c.call(given[0], given[1])
			var want [][]prim.Prim
			for _, l := range kept {
				want = append(want, copied(l))
			}
			answer := c.call(given[0], given[1])
			for k, l := range answer { // no two rows of one answer share, nor two prims of one row
				for at := range l {
					spoil(l[at : at+1 : at+1])
					if !alike(l[at+1:], want[k][at+1:]) {
						t.Fatalf("%s(%v): prims of one row share", c.name, was)
					}
				}
				spoil(l)
				if k+1 < len(answer) && !alike(answer[k+1], want[k+1]) {
					t.Fatalf("%s(%v): rows of one answer share", c.name, was)
				}
			}
			for k := range given {
				if !alike(given[k], was[k]) || i < 5 && roomIsWritten(given[k]) {
					t.Fatalf("what %s told of %v, written into, has it be %v", c.name, was, given)
				}
			}
			spoil(given[0])
			spoil(given[1])
			for k := range kept {
				if !alike(kept[k], want[k]) {
					t.Fatalf("%s of %v, written into, is %v, not %v", c.name, was, kept[k], want[k])
				}
			}
		}
	}
}

func TestLinesOfOnePrimDoNotShare(t *testing.T) { // R6
	for _, c := range told {
		for i := range roomyRows() {
			given := roomyRows()[i]
			want := c.call(given[0], given[1])
			for k, l := range c.call(given[0], given[1]) {
				for at, p := range l {
					room := p.Old[:cap(p.Old)]
					for n := range room {
						room[n] = "written"
					}
					if !slices.Equal(p.New, want[k][at].New) {
						t.Fatalf("%s: Old and New of %v share", c.name, p)
					}
				}
			}
		}
	}
}

func TestApplyKeepsNothingHandedIn(t *testing.T) { // R5, R6
	x := of(t, files{"a": "x y"})
	l := roomy(hunk("a", 0, "x y", "q r"), add("b"), hunk("b", 0, "", "s"))
	was := copied(l)
	if e := seq.Apply(x, l); e != api.OK || !alike(l, was) || roomIsWritten(l) {
		t.Fatalf("Apply(%v) = %d: the row is %v", was, e, l)
	}
	spoil(l)
	if s := x.Text(); s != "a 2\nq\nr\nb 1\ns\n" {
		t.Errorf("the row is written into: the tree is %q", s)
	}
	l = roomy(hunk("a", 0, "q r", "x y"), rm("b"))
	if e := seq.Apply(x, l); e != api.ErrPrimFits {
		t.Fatalf("Apply(%v) = %d", l, e)
	}
	spoil(l)
	if s := x.Text(); s != "a 2\nq\nr\nb 1\ns\n" {
		t.Errorf("a row that failed is written into: the tree is %q", s)
	}
}

func TestOneRowForBoth(t *testing.T) { // R5
	l := row(hunk("a", 0, "x", "y"), add("b"))
	held(t, l, l, nil, nil, false)
	if r, is := seq.Rebase(l, l); is || len(r) != 0 {
		t.Errorf("Rebase(l, l) = %v, %v", r, is)
	}
	far := row(hunk("a", 0, "x", "y"), hunk("a", 9, "x", "y"))
	held(t, far[:1], far[1:], far[1:], far[:1], true)
}
