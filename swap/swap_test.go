package swap_test

import (
	"fmt"
	"math"
	"slices"
	"strings"
	"testing"

	"quiltwork/api"
	"quiltwork/prim"
	"quiltwork/swap"
	"quiltwork/tree"
)

var longest = strings.Repeat("n", api.MaxName)

// none is what is told beside false.
var none = prim.Prim{}

func hunk(name string, at int, old, with []string) prim.Prim {
	return prim.Prim{Kind: prim.Hunk, Name: name, At: at, Old: old, New: with}
}

func add(name string) prim.Prim { return prim.Prim{Kind: prim.Add, Name: name} }

func rm(name string) prim.Prim { return prim.Prim{Kind: prim.Rm, Name: name} }

func move(name, to string) prim.Prim { return prim.Prim{Kind: prim.Move, Name: name, To: to} }

// row is a row of lines, to be written short.
func row(l ...string) []string { return l }

// many is a row of n lines, of which no two are alike.
func many(sign string, n int) []string {
	var l []string
	for i := range n {
		l = append(l, fmt.Sprint(sign, i))
	}
	return l
}

// sized is a hunk in a that has as many lines as are told, and shares none with a hunk of another sign.
func sized(sign string, at, old, with int) prim.Prim {
	return hunk("a", at, many("old "+sign, old), many("new "+sign, with))
}

// alike tells whether both have the same in all fields, without a call of the program.
func alike(p, q prim.Prim) bool {
	return p.Kind == q.Kind && p.Name == q.Name && p.To == q.To && p.At == q.At && slices.Equal(p.Old, q.Old) && slices.Equal(p.New, q.New)
}

// copied is a prim whose rows share nothing with p's, without a call of the program.
func copied(p prim.Prim) prim.Prim {
	p.Old = append([]string{}, p.Old...)
	p.New = append([]string{}, p.New...)
	return p
}

// held holds what the three calls tell of p and q against what is wanted.
func held(t *testing.T, p, q, first, second prim.Prim, is bool) {
	t.Helper()
	wasP, wasQ := copied(p), copied(q)
	a, b, ok := swap.Swap(p, q)
	if ok != is || !alike(a, first) || !alike(b, second) {
		t.Errorf("Swap(%#v, %#v) = %#v, %#v, %v, want %#v, %#v, %v", p, q, a, b, ok, first, second, is)
	}
	if apart := swap.Apart(p, q); apart != (is && alike(first, q) && alike(second, p)) { // P4.2
		t.Errorf("Apart(%#v, %#v) = %v, and they swap to %#v, %#v, %v", p, q, apart, first, second, is)
	}
	if needs := swap.Needs(p, q); needs == is { // P4.2
		t.Errorf("Needs(%#v, %#v) = %v, and they swap: %v", p, q, needs, is)
	}
	if !alike(p, wasP) || !alike(q, wasQ) { // R5
		t.Errorf("%#v, %#v were changed to %#v, %#v", wasP, wasQ, p, q)
	}
}

// swaps is p and q, and what they swap to.
type swaps struct{ p, q, first, second prim.Prim }

// pair is p and q that do not swap.
type pair struct{ p, q prim.Prim }

func TestHunksThatSwap(t *testing.T) { // P4.1
	x, y, z := row("x"), row("y"), row("z")
	for _, w := range []swaps{
		// q below p, apart by one line.
		{hunk("a", 0, x, y), hunk("a", 2, z, nil), hunk("a", 2, z, nil), hunk("a", 0, x, y)},
		{hunk("a", 0, nil, x), hunk("a", 2, y, z), hunk("a", 1, y, z), hunk("a", 0, nil, x)},
		{hunk("a", 0, x, nil), hunk("a", 1, y, z), hunk("a", 2, y, z), hunk("a", 0, x, nil)},
		{hunk("a", 0, x, nil), hunk("a", 1, nil, z), hunk("a", 2, nil, z), hunk("a", 0, x, nil)},
		{hunk("a", 3, x, row("p", "q", "r")), hunk("a", 7, nil, z), hunk("a", 5, nil, z), hunk("a", 3, x, row("p", "q", "r"))},
		{hunk("a", 3, row("p", "q", "r"), x), hunk("a", 5, y, nil), hunk("a", 7, y, nil), hunk("a", 3, row("p", "q", "r"), x)},
		// q below p, far off.
		{hunk("a", 0, x, nil), hunk("a", 5, y, z), hunk("a", 6, y, z), hunk("a", 0, x, nil)},
		{hunk("a", 0, x, y), hunk("a", 5, y, x), hunk("a", 5, y, x), hunk("a", 0, x, y)},
		{hunk("a", 1, nil, row("", "")), hunk("a", 99, row(""), nil), hunk("a", 97, row(""), nil), hunk("a", 1, nil, row("", ""))},
		// q above p, apart by one line.
		{hunk("a", 2, z, nil), hunk("a", 0, x, y), hunk("a", 0, x, y), hunk("a", 2, z, nil)},
		{hunk("a", 1, y, z), hunk("a", 0, nil, x), hunk("a", 0, nil, x), hunk("a", 2, y, z)},
		{hunk("a", 2, y, z), hunk("a", 0, x, nil), hunk("a", 0, x, nil), hunk("a", 1, y, z)},
		{hunk("a", 1, nil, z), hunk("a", 0, nil, x), hunk("a", 0, nil, x), hunk("a", 2, nil, z)},
		{hunk("a", 7, z, nil), hunk("a", 3, row("p", "q", "r"), x), hunk("a", 3, row("p", "q", "r"), x), hunk("a", 5, z, nil)},
		{hunk("a", 5, z, nil), hunk("a", 3, x, row("p", "q", "r")), hunk("a", 3, x, row("p", "q", "r")), hunk("a", 7, z, nil)},
		// q above p, far off.
		{hunk("a", 9, nil, z), hunk("a", 0, nil, row("x", "y")), hunk("a", 0, nil, row("x", "y")), hunk("a", 11, nil, z)},
		{hunk("a", 9, nil, z), hunk("a", 0, x, y), hunk("a", 0, x, y), hunk("a", 9, nil, z)},
		// Of two files, wherever they lie.
		{hunk("a", 0, x, nil), hunk("b", 0, y, z), hunk("b", 0, y, z), hunk("a", 0, x, nil)},
		{hunk("b", 0, x, nil), hunk("a", 5, y, z), hunk("a", 5, y, z), hunk("b", 0, x, nil)},
		{hunk("a", 5, x, nil), hunk("ab", 0, nil, z), hunk("ab", 0, nil, z), hunk("a", 5, x, nil)},
		{hunk("a", 3, nil, x), hunk("b", 3, nil, x), hunk("b", 3, nil, x), hunk("a", 3, nil, x)},
		{hunk("a", 3, nil, x), hunk(longest, 3, x, nil), hunk(longest, 3, x, nil), hunk("a", 3, nil, x)},
	} {
		held(t, w.p, w.q, w.first, w.second, true)
	}
}

func TestHunksThatDoNotSwap(t *testing.T) { // P4.1
	x, y, z := row("x"), row("y"), row("z")
	for _, w := range []pair{
		// That touch: q's place is where p's lines end.
		{hunk("a", 0, x, y), hunk("a", 1, z, nil)},
		{hunk("a", 0, x, y), hunk("a", 1, nil, z)},
		{hunk("a", 0, x, nil), hunk("a", 0, z, y)},
		{hunk("a", 0, x, nil), hunk("a", 0, nil, y)},
		{hunk("a", 2, x, row("p", "q")), hunk("a", 4, y, z)},
		{hunk("a", 2, nil, row("p", "q")), hunk("a", 4, y, nil)},
		// That touch: q's lines end at p's place.
		{hunk("a", 1, x, y), hunk("a", 0, z, nil)},
		{hunk("a", 1, x, y), hunk("a", 1, nil, z)},
		{hunk("a", 5, nil, y), hunk("a", 5, nil, z)},
		{hunk("a", 5, x, y), hunk("a", 3, row("p", "q"), nil)},
		{hunk("a", 5, x, nil), hunk("a", 3, row("p", "q"), row("p"))},
		// That lie over one another.
		{hunk("a", 0, x, y), hunk("a", 0, y, x)},
		{hunk("a", 0, x, y), hunk("a", 0, y, z)},
		{hunk("a", 3, nil, row("p", "q", "r")), hunk("a", 4, row("q"), nil)},
		{hunk("a", 3, nil, row("p", "q", "r")), hunk("a", 4, nil, x)},
		{hunk("a", 3, nil, row("p", "q", "r")), hunk("a", 2, row("x", "p", "q", "r", "y"), nil)},
		{hunk("a", 3, x, row("p", "q")), hunk("a", 4, row("q", "r"), nil)},
		{hunk("a", 3, x, row("p", "q")), hunk("a", 2, row("r", "p"), nil)},
		{hunk("a", 3, x, nil), hunk("a", 2, row("p", "q"), nil)},
		{hunk(longest, 0, x, y), hunk(longest, 0, y, x)},
	} {
		held(t, w.p, w.q, none, none, false)
	}
}

// allSized are the hunks of one sign at the first ten places, of up to three lines.
func allSized(sign string) []prim.Prim {
	var all []prim.Prim
	for at := range 10 {
		for old := range 4 {
			for with := range 4 {
				if old+with > 0 {
					all = append(all, sized(sign, at, old, with))
				}
			}
		}
	}
	return all
}

// cut has in a file n lines from a place on make way for others, without a call of the program.
func cut(l []string, at, n int, with []string) []string {
	return slices.Concat(l[:at], with, l[at+n:])
}

// byNeighbours tells what p and q swap to by where the lines that lie ahead of them stand in a file with, and without the other one.
func byNeighbours(p, q prim.Prim) (first, second prim.Prim, is bool) {
	was := many("line ", 40)
	behindP := cut(was, p.At, len(p.Old), p.New)
	switch {
	case q.At-(p.At+len(p.New)) >= 1:
		ahead := behindP[q.At-1]
		q.At = slices.Index(was, ahead) + 1
		return q, p, true
	case p.At-(q.At+len(q.Old)) >= 1:
		ahead := behindP[p.At-1]
		p.At = slices.Index(cut(was, q.At, len(q.Old), q.New), ahead) + 1
		return q, p, true
	}
	return none, none, false
}

func TestHunksByTheirNeighbours(t *testing.T) { // P4.1
	swapped, not := 0, 0
	for _, p := range allSized("p") {
		for _, q := range allSized("q") {
			first, second, is := byNeighbours(p, q)
			held(t, p, q, first, second, is)
			if is {
				swapped++
			} else {
				not++
			}
		}
	}
	if swapped < 5000 || not < 5000 {
		t.Errorf("%d pairs that swap, %d that do not", swapped, not)
	}
}

func TestHunkAndMove(t *testing.T) { // P4.1
	x := row("x")
	for _, w := range []swaps{
		{hunk("a", 0, nil, x), move("a", "b"), move("a", "b"), hunk("b", 0, nil, x)},
		{hunk("b", 7, x, nil), move("b", "a"), move("b", "a"), hunk("a", 7, x, nil)},
		{hunk("a", prim.Far, nil, x), move("a", longest), move("a", longest), hunk(longest, prim.Far, nil, x)},
		{hunk("c", 3, nil, x), move("a", "b"), move("a", "b"), hunk("c", 3, nil, x)},
		{hunk("ab", 3, nil, x), move("a", "b"), move("a", "b"), hunk("ab", 3, nil, x)},
	} {
		held(t, w.p, w.q, w.first, w.second, true)
	}
	for _, w := range []pair{
		{hunk("b", 0, nil, x), move("a", "b")},
		{hunk("a", 7, x, nil), move("b", "a")},
		{hunk(longest, 0, x, nil), move("b", longest)},
	} {
		held(t, w.p, w.q, none, none, false)
	}
}

func TestMoveAndHunk(t *testing.T) { // P4.1
	x := row("x")
	for _, w := range []swaps{
		{move("a", "b"), hunk("b", 0, nil, x), hunk("a", 0, nil, x), move("a", "b")},
		{move("b", "a"), hunk("a", 7, x, nil), hunk("b", 7, x, nil), move("b", "a")},
		{move(longest, "a"), hunk("a", prim.Far, nil, x), hunk(longest, prim.Far, nil, x), move(longest, "a")},
		{move("a", "b"), hunk("c", 3, nil, x), hunk("c", 3, nil, x), move("a", "b")},
		{move("a", "b"), hunk("ab", 3, nil, x), hunk("ab", 3, nil, x), move("a", "b")},
	} {
		held(t, w.p, w.q, w.first, w.second, true)
	}
	for _, w := range []pair{
		{move("a", "b"), hunk("a", 0, nil, x)},
		{move("b", "a"), hunk("b", 7, x, nil)},
		{move(longest, "a"), hunk(longest, 0, x, nil)},
	} {
		held(t, w.p, w.q, none, none, false)
	}
}

func TestAllOthers(t *testing.T) { // P4.1
	h := func(name string) prim.Prim { return hunk(name, 2, row("x"), row("y", "z")) }
	for _, w := range []pair{
		{h("a"), add("b")}, {h("a"), rm("b")}, {add("b"), h("a")}, {rm("b"), h("a")},
		{add("a"), add("b")}, {add("a"), rm("b")}, {rm("a"), add("b")}, {rm("a"), rm("b")},
		{add("a"), move("b", "c")}, {rm("a"), move("b", "c")}, {move("b", "c"), add("a")}, {move("b", "c"), rm("a")},
		{add("bc"), move("b", "c")}, {move("a", "b"), move("c", "d")}, {move("d", "a"), move("c", "b")},
		{add("a"), add(longest)},
	} {
		held(t, w.p, w.q, w.q, w.p, true)
	}
	for _, w := range []pair{
		{h("a"), add("a")}, {h("a"), rm("a")}, {add("a"), h("a")}, {rm("a"), h("a")},
		{add("a"), add("a")}, {add("a"), rm("a")}, {rm("a"), add("a")}, {rm("a"), rm("a")},
		{add("a"), move("a", "b")}, {add("b"), move("a", "b")}, {rm("a"), move("a", "b")}, {rm("b"), move("a", "b")},
		{move("a", "b"), add("a")}, {move("a", "b"), add("b")}, {move("a", "b"), rm("a")}, {move("a", "b"), rm("b")},
		{move("a", "b"), move("a", "b")}, {move("a", "b"), move("b", "a")}, {move("a", "b"), move("b", "c")},
		{move("a", "b"), move("c", "a")}, {move("a", "b"), move("a", "c")}, {move("a", "b"), move("c", "b")},
		{move("b", "a"), move("b", "c")}, {move("c", "b"), move("b", "a")},
	} {
		held(t, w.p, w.q, none, none, false)
	}
}

// worlds are the right prims of three files: all of each kind but hunks, and hunks of few places and lines.
func worlds(places []int) []prim.Prim {
	var all []prim.Prim
	names := row("a", "b", "c")
	for _, name := range names {
		all = append(all, add(name), rm(name))
		for _, to := range names {
			if to != name {
				all = append(all, move(name, to))
			}
		}
	}
	for _, name := range names[:2] {
		for _, at := range places {
			all = append(all, hunk(name, at, nil, row("x")), hunk(name, at, row("x"), nil), hunk(name, at, row("x"), row("y")), hunk(name, at, row("x"), row("y", "z")))
		}
	}
	return all
}

// byRule tells by the chapter's words, case by case, what p and q swap to.
func byRule(p, q prim.Prim) (first, second prim.Prim, is bool) {
	touched := func(p prim.Prim) []string {
		if p.Kind == prim.Move {
			return row(p.Name, p.To)
		}
		return row(p.Name)
	}
	a, b := copied(q), copied(p)
	switch fmt.Sprint(p.Kind == prim.Hunk, p.Kind == prim.Move, q.Kind == prim.Hunk, q.Kind == prim.Move) {
	case "true false true false":
		if p.Name == q.Name {
			return byNeighbours(p, q)
		}
		is = true
	case "true false false true":
		is = q.To != p.Name
		if q.Name == p.Name {
			b.Name = q.To
		}
	case "false true true false":
		is = p.Name != q.Name
		if p.To == q.Name {
			a.Name = p.Name
		}
	default:
		is = !slices.Contains(touched(p), q.Name) && !slices.Contains(touched(p), touched(q)[len(touched(q))-1])
	}
	if !is {
		return none, none, false
	}
	return a, b, true
}

func TestEachPairOfKinds(t *testing.T) { // P4.1, P4.2
	all := worlds([]int{0, 1, 2, 3, 4})
	swapped, not := map[[2]int]int{}, map[[2]int]int{}
	for _, p := range all {
		for _, q := range all {
			first, second, is := byRule(p, q)
			held(t, p, q, first, second, is)
			if is {
				swapped[[2]int{p.Kind, q.Kind}]++
			} else {
				not[[2]int{p.Kind, q.Kind}]++
			}
		}
	}
	for p := prim.Hunk; p <= prim.Move; p++ {
		for q := prim.Hunk; q <= prim.Move; q++ {
			yes, no := swapped[[2]int{p, q}], not[[2]int{p, q}]
			// Of three files, two moves always have one in common.
			if no == 0 || yes == 0 && p+q != prim.Move+prim.Move {
				t.Errorf("kinds %d, %d: %d pairs that swap, %d that do not", p, q, yes, no)
			}
		}
	}
}

// wrong are prims that are not right, of each kind, and of none.
func wrong() []prim.Prim {
	return []prim.Prim{
		{},
		{Kind: -1, Name: "e"},
		{Kind: 4, Name: "e"},
		{Kind: math.MaxInt, Name: "e", To: "f", New: row("x")},
		{Kind: math.MinInt},
		hunk("e", 9, nil, nil),
		hunk("e", 9, row("x"), row("x")),
		hunk("e", -1, nil, row("x")),
		hunk("e", math.MinInt, nil, row("x")),
		hunk("e", prim.Far+1, nil, row("x")),
		hunk("e", math.MaxInt, row("x"), nil),
		hunk("E", 9, nil, row("x")),
		hunk("", 9, nil, row("x")),
		hunk(longest+"n", 9, nil, row("x")),
		hunk("e", 9, nil, row("\n")),
		hunk("e", 9, row(strings.Repeat("x", api.MaxLine+1)), nil),
		{Kind: prim.Hunk, Name: "e", To: "f", New: row("x")},
		add(""),
		add("e "),
		rm("E"),
		{Kind: prim.Add, Name: "e", At: 1},
		{Kind: prim.Add, Name: "e", To: "f"},
		{Kind: prim.Rm, Name: "e", Old: row("")},
		move("e", ""),
		move("e", "e"),
		move("", "e"),
		move("e", "F"),
		{Kind: prim.Move, Name: "e", To: "f", New: row("x")},
		{Kind: prim.Move, Name: "e", To: "f", At: -1},
	}
}

func TestNotRight(t *testing.T) { // P4.1: they do not swap, also where the files are others, or the places are far apart
	right := append(worlds([]int{0, 5}), hunk("e", 0, nil, row("y")), hunk("e", 20, row("y"), nil))
	for _, p := range wrong() {
		if prim.Right(p) {
			t.Fatalf("%#v is right", p)
		}
		for _, q := range right {
			held(t, p, q, none, none, false)
			held(t, q, p, none, none, false)
		}
		for _, q := range wrong() {
			held(t, p, q, none, none, false)
		}
	}
}

func TestEdges(t *testing.T) { // P4.1: places at 0, at Far, and beyond
	const far = prim.Far
	x, y := row("x"), row("y")
	for _, w := range []swaps{
		{hunk("a", 0, x, nil), hunk("a", far-1, y, x), hunk("a", far, y, x), hunk("a", 0, x, nil)},
		{hunk("a", far-3, x, nil), hunk("a", far-1, y, x), hunk("a", far, y, x), hunk("a", far-3, x, nil)},
		{hunk("a", 0, row("x", "y"), nil), hunk("a", far-2, nil, x), hunk("a", far, nil, x), hunk("a", 0, row("x", "y"), nil)},
		{hunk("a", 0, nil, x), hunk("a", far, nil, y), hunk("a", far-1, nil, y), hunk("a", 0, nil, x)},
		{hunk("a", 0, x, y), hunk("a", far, y, x), hunk("a", far, y, x), hunk("a", 0, x, y)},
		{hunk("a", far-2, nil, x), hunk("a", far, nil, y), hunk("a", far-1, nil, y), hunk("a", far-2, nil, x)},
		{hunk("a", far-1, y, x), hunk("a", 0, nil, x), hunk("a", 0, nil, x), hunk("a", far, y, x)},
		{hunk("a", far-2, nil, x), hunk("a", 0, nil, row("x", "y")), hunk("a", 0, nil, row("x", "y")), hunk("a", far, nil, x)},
		{hunk("a", far, nil, y), hunk("a", 0, x, nil), hunk("a", 0, x, nil), hunk("a", far-1, nil, y)},
		{hunk("a", far, x, y), hunk("a", 0, x, y), hunk("a", 0, x, y), hunk("a", far, x, y)},
		{hunk("a", far, x, y), hunk("a", far-2, x, nil), hunk("a", far-2, x, nil), hunk("a", far-1, x, y)},
		{hunk("a", far, x, nil), hunk("b", far, x, nil), hunk("b", far, x, nil), hunk("a", far, x, nil)},
		{hunk("a", 0, x, nil), hunk("b", far, x, nil), hunk("b", far, x, nil), hunk("a", 0, x, nil)},
		// The lowest that a place can come to.
		{hunk("a", 0, nil, many("x", 50)), hunk("a", 51, nil, y), hunk("a", 1, nil, y), hunk("a", 0, nil, many("x", 50))},
		{hunk("a", 51, nil, y), hunk("a", 0, many("x", 50), nil), hunk("a", 0, many("x", 50), nil), hunk("a", 1, nil, y)},
	} {
		held(t, w.p, w.q, w.first, w.second, true)
	}
	for _, w := range []pair{
		{hunk("a", 0, x, nil), hunk("a", far, nil, y)},
		{hunk("a", 0, row("x", "y"), x), hunk("a", far, y, nil)},
		{hunk("a", 0, row("x", "y"), nil), hunk("a", far-1, y, nil)},
		{hunk("a", far-1, x, nil), hunk("a", far, nil, y)},
		{hunk("a", far, nil, y), hunk("a", 0, nil, x)},
		{hunk("a", far, y, x), hunk("a", far-3, x, row("x", "y"))},
		{hunk("a", far-1, nil, y), hunk("a", 0, nil, row("x", "y"))},
		{hunk("a", far, nil, y), hunk("a", far, nil, x)},
		{hunk("a", 0, nil, y), hunk("a", 0, nil, x)},
		{hunk("a", 0, nil, many("x", 50)), hunk("a", 50, nil, y)},
		{hunk("a", 0, nil, many("x", 50)), hunk("a", 0, nil, y)},
		{hunk("a", 50, nil, y), hunk("a", 0, many("x", 50), nil)},
		{hunk("a", 49, nil, y), hunk("a", 0, many("x", 50), nil)},
	} {
		held(t, w.p, w.q, none, none, false)
	}
}

func TestApartAndNeeds(t *testing.T) { // P4.2
	x, y := row("x"), row("y")
	for _, w := range []struct {
		p, q         prim.Prim
		apart, needs bool
	}{
		{hunk("a", 0, x, y), hunk("a", 5, x, y), true, false},
		{hunk("a", 5, x, y), hunk("a", 0, x, y), true, false},
		{hunk("a", 0, x, nil), hunk("a", 5, x, y), false, false}, // q is at another place
		{hunk("a", 5, x, y), hunk("a", 0, nil, y), false, false}, // p is at another place
		{hunk("a", 5, nil, y), hunk("a", 0, x, y), true, false},
		{hunk("a", 0, x, y), hunk("a", 5, nil, y), true, false},
		{hunk("a", 0, x, y), hunk("a", 1, x, y), false, true},
		{hunk("a", 0, x, nil), hunk("b", 0, x, nil), true, false},
		{hunk("a", 0, x, nil), move("a", "b"), false, false}, // p is in another file
		{move("a", "b"), hunk("b", 0, x, nil), false, false}, // q is in another file
		{hunk("b", 0, x, nil), move("a", "b"), false, true},
		{hunk("c", 0, x, nil), move("a", "b"), true, false},
		{add("a"), hunk("a", 0, nil, x), false, true},
		{add("a"), add("b"), true, false},
		{prim.Prim{}, prim.Prim{}, false, true},
		{add("a"), rm(""), false, true},
	} {
		if is := swap.Apart(w.p, w.q); is != w.apart {
			t.Errorf("Apart(%#v, %#v) = %v", w.p, w.q, is)
		}
		if is := swap.Needs(w.p, w.q); is != w.needs {
			t.Errorf("Needs(%#v, %#v) = %v", w.p, w.q, is)
		}
	}
}

// files is a tree in another way: what trees are built of.
type files map[string][]string

// of builds a tree of these files.
func of(t testing.TB, f files) *tree.Tree {
	t.Helper()
	x := tree.New()
	for name, l := range f {
		if x.Add(name) != api.OK || x.Put(name, l) != api.OK {
			t.Fatalf("no tree of %q", f)
		}
	}
	return x
}

// fitting are the prims that fit a tree of these files, of four names.
func fitting(x *tree.Tree) []prim.Prim {
	var all []prim.Prim
	for _, name := range row("a", "b", "c", "d") {
		l, is := x.Get(name)
		if !is {
			all = append(all, add(name))
			continue
		}
		if len(l) == 0 {
			all = append(all, rm(name))
		}
		for _, to := range row("a", "b", "c", "d") {
			if _, is := x.Get(to); !is {
				all = append(all, move(name, to))
			}
		}
		for at := 0; at <= len(l); at++ {
			for end := at; end <= min(at+2, len(l)); end++ {
				for _, with := range [][]string{nil, row("x"), row("p", "y"), row("x", "y", "z")} {
					if h := hunk(name, at, l[at:end], with); prim.Right(h) {
						all = append(all, h)
					}
				}
			}
		}
	}
	return all
}

// applied is a copy of the tree, with these applied, one behind the other; nil, if one does not fit.
func applied(x *tree.Tree, l ...prim.Prim) *tree.Tree {
	x = x.Copy()
	for _, p := range l {
		if prim.Apply(x, p) != api.OK {
			return nil
		}
	}
	return x
}

func TestTheSameTree(t *testing.T) { // P4.3
	swapped := map[[2]int]int{}
	for _, f := range []files{
		{"a": row("x", "y", "x", "z", "x")},
		{"a": row("x", "x", "x", "x"), "b": row("x")},
		{"a": row("x", "y", "z"), "b": nil, "c": row("y", "y")},
		{"a": nil, "b": nil},
		{"a": nil, "c": row("p", "y", "q", "y"), "d": row("")},
		{},
	} {
		x := of(t, f)
		for _, p := range fitting(x) {
			behindP := applied(x, p)
			for _, q := range fitting(behindP) {
				first, second, is := swap.Swap(p, q)
				if !is {
					continue
				}
				swapped[[2]int{p.Kind, q.Kind}]++
				want, got := applied(behindP, q), applied(x, first, second)
				if got == nil || !tree.Same(want, got) || want.Text() != got.Text() {
					t.Errorf("of %q, %#v, %#v swap to %#v, %#v, which do not make the same tree", f, p, q, first, second)
				}
			}
		}
	}
	for p := prim.Hunk; p <= prim.Move; p++ {
		for q := prim.Hunk; q <= prim.Move; q++ {
			if swapped[[2]int{p, q}] == 0 {
				t.Errorf("none of the kinds %d, %d were swapped", p, q)
			}
		}
	}
}

// alongFar are hunks near the farthest place, where an order of swaps may lead beyond it, and others that have them do so.
func alongFar() []prim.Prim {
	var all []prim.Prim
	for _, at := range []int{0, 2, prim.Far - 5, prim.Far - 2, prim.Far - 1, prim.Far} {
		all = append(all, hunk("a", at, nil, row("x")), hunk("a", at, row("x"), nil), hunk("a", at, row("x"), row("y")), hunk("a", at, row("x", "y"), nil))
	}
	return append(all, move("a", "b"), hunk("b", prim.Far, nil, row("x")))
}

func TestSwappedAgain(t *testing.T) { // P4.3
	swapped := 0
	for _, all := range [][]prim.Prim{worlds([]int{0, 1, 2, 3, 4}), append(alongFar(), wrong()...)} {
		for _, p := range all {
			for _, q := range all {
				first, second, is := swap.Swap(p, q)
				if !is {
					continue
				}
				swapped++
				if a, b, is := swap.Swap(first, second); !is || !alike(a, p) || !alike(b, q) {
					t.Errorf("%#v, %#v, swapped and swapped again, are %#v, %#v, %v", p, q, a, b, is)
				}
			}
		}
	}
	if swapped < 1000 {
		t.Errorf("%d pairs were swapped", swapped)
	}
}

func TestSwappedWithWhatUndoes(t *testing.T) { // P4.3
	swapped := 0
	for _, all := range [][]prim.Prim{worlds([]int{0, 1, 2, 3, 4}), alongFar()} {
		for _, p := range all {
			for _, q := range all {
				first, second, is := swap.Swap(p, q)
				if !is {
					continue
				}
				swapped++
				a, b, is := swap.Swap(prim.Invert(p), first)
				if !is || !alike(a, q) || !alike(b, prim.Invert(second)) {
					t.Errorf("of %#v, %#v: what undoes the first one and %#v swap to %#v, %#v, %v", p, q, first, a, b, is)
				}
			}
		}
	}
	if swapped < 1000 {
		t.Errorf("%d pairs were swapped", swapped)
	}
}

// lastToFirst tells three prims in the opposite order. It begins with the first two, or with the last two.
func lastToFirst(p, q, r prim.Prim, firstTwo bool) (three [3]prim.Prim, is bool) {
	l := [3]prim.Prim{p, q, r}
	order := [3]int{1, 0, 1}
	if firstTwo {
		order = [3]int{0, 1, 0}
	}
	for _, at := range order {
		l[at], l[at+1], is = swap.Swap(l[at], l[at+1])
		if !is {
			return three, false
		}
	}
	return l, true
}

func TestThree(t *testing.T) { // P4.3
	all := worlds([]int{0, 1, 3, 6})
	turned := 0
	for _, p := range all {
		for _, q := range all {
			for _, r := range all {
				one, isOne := lastToFirst(p, q, r, true)
				two, isTwo := lastToFirst(p, q, r, false)
				same := isOne == isTwo
				for i := range one {
					same = same && alike(one[i], two[i])
				}
				if !same {
					t.Errorf("%#v, %#v, %#v in the opposite order are %#v, %v, or %#v, %v", p, q, r, one, isOne, two, isTwo)
				}
				if isOne {
					turned++
				}
			}
		}
	}
	if turned < 1000 {
		t.Errorf("%d threes were turned", turned)
	}
}

func TestThreeAlongFar(t *testing.T) { // P4.3, and P4.1: an order that leads beyond Far does not bring the last one ahead
	turned, beyond := 0, 0
	for _, p := range alongFar() {
		for _, q := range alongFar() {
			for _, r := range alongFar() {
				one, isOne := lastToFirst(p, q, r, true)
				two, isTwo := lastToFirst(p, q, r, false)
				if isOne != isTwo {
					beyond++
				}
				if !isOne || !isTwo {
					continue
				}
				turned++
				for i := range one {
					if !alike(one[i], two[i]) {
						t.Errorf("%#v, %#v, %#v in the opposite order are %#v, or %#v", p, q, r, one, two)
					}
				}
			}
		}
	}
	if turned < 1000 || beyond == 0 {
		t.Errorf("%d threes were turned, %d in one order alone", turned, beyond)
	}
	p, q, r := hunk("a", 0, row("x"), nil), hunk("a", 9, nil, row("x")), hunk("a", prim.Far, nil, row("y"))
	if _, _, is := swap.Swap(p, r); is {
		t.Error("a place beyond Far is told")
	}
	if l, is := lastToFirst(p, q, r, false); !is || !alike(l[0], r) {
		t.Errorf("one line less, and one more: %#v, %v", l, is)
	}
}

// roomy is a row with room behind it, where a careless append would write.
func roomy(l ...string) []string {
	return append(make([]string, 0, len(l)+8), l...)
}

// spoil writes into all that rows have, and into their room.
func spoil(rows ...[]string) {
	for _, l := range rows {
		l = l[:cap(l)]
		for i := range l {
			l[i] = "written"
		}
	}
}

// roomyPairs are pairs that swap in each way, with rows that have room, or share it.
func roomyPairs() []pair {
	h := func(name string, at int) prim.Prim { return hunk(name, at, roomy("x", "y"), roomy("z")) }
	shared := roomy("x", "y", "z")
	same := func(name string, at int) prim.Prim { return hunk(name, at, shared[:1], shared[1:]) }
	over := func(name string, at int) prim.Prim { return hunk(name, at, shared[1:2], shared[:2]) }
	empty := func(p prim.Prim) prim.Prim {
		p.Old, p.New = roomy(), shared[:0]
		return p
	}
	return []pair{
		{h("a", 0), h("a", 9)}, {h("a", 9), h("a", 0)}, {h("a", 0), h("b", 0)},
		{h("a", 0), move("a", "b")}, {h("c", 0), move("a", "b")}, {move("a", "b"), h("b", 0)}, {move("a", "b"), h("c", 0)},
		{h("a", 0), add("b")}, {rm("b"), h("a", 0)},
		{same("a", 0), same("a", 9)}, {same("a", 9), same("a", 0)}, {same("a", 0), same("b", 0)}, {same("a", 0), over("a", 9)}, {over("b", 0), same("a", 0)},
		{same("a", 0), move("a", "b")}, {move("a", "b"), over("b", 0)}, {over("a", 0), rm("b")},
		{empty(move("a", "b")), same("b", 0)}, {over("a", 0), empty(move("a", "b"))}, {empty(add("a")), empty(rm("b"))}, {empty(move("a", "b")), empty(move("c", "d"))},
	}
}

func TestLinesOfTheirOwn(t *testing.T) { // R5, R6
	for i := range roomyPairs() {
		w := roomyPairs()[i]
		p, q := copied(w.p), copied(w.q)
		first, second, is := swap.Swap(w.p, w.q)
		again, behind, _ := swap.Swap(w.p, w.q)
		if !is || !alike(first, again) || !alike(second, behind) {
			t.Fatalf("Swap(%#v, %#v) = %#v, %#v, %v", p, q, first, second, is)
		}
		told := [2]prim.Prim{copied(first), copied(second)}
		spoil(first.Old)
		_ = append(first.Old, "more")
		if !slices.Equal(first.New, told[0].New) {
			t.Errorf("Swap(%#v, %#v): Old and New of first share", p, q)
		}
		spoil(first.New)
		_ = append(first.New, "more")
		if !alike(second, told[1]) {
			t.Errorf("Swap(%#v, %#v): first and second share", p, q)
		}
		spoil(second.Old)
		if !slices.Equal(second.New, told[1].New) {
			t.Errorf("Swap(%#v, %#v): Old and New of second share", p, q)
		}
		spoil(second.New)
		_, _ = append(second.Old, "more"), append(second.New, "more")
		if !alike(w.p, p) || !alike(w.q, q) || roomIsWritten(w.p) || roomIsWritten(w.q) {
			t.Errorf("what Swap(%#v, %#v) told, written into, has them be %#v, %#v", p, q, w.p, w.q)
		}
		spoil(w.p.Old, w.p.New, w.q.Old, w.q.New)
		if !alike(again, told[0]) || !alike(behind, told[1]) {
			t.Errorf("%#v, %#v, written into, have what Swap told be %#v, %#v", p, q, again, behind)
		}
	}
}

// roomIsWritten tells whether something was written behind p's rows.
func roomIsWritten(p prim.Prim) bool {
	return slices.ContainsFunc([][]string{p.Old, p.New}, func(l []string) bool {
		return slices.Contains(l[:cap(l)], "written") || slices.Contains(l[:cap(l)], "more")
	})
}

func TestOneRowForBoth(t *testing.T) { // R5, R6
	l := row("x", "y")
	p, q := hunk("a", 3, l, nil), hunk("b", 3, l, nil)
	held(t, p, p, none, none, false)
	held(t, p, q, q, p, true)
	if !slices.Equal(l, row("x", "y")) {
		t.Errorf("the row is %q", l)
	}
}
