package prim_test

import (
	"fmt"
	"maps"
	"math"
	"slices"
	"strings"
	"testing"

	"quiltwork/api"
	"quiltwork/prim"
	"quiltwork/tree"
)

var (
	longest = strings.Repeat("n", api.MaxName)
	full    = strings.Repeat("x", api.MaxLine)
)

// notNames are texts that no file is called by.
var notNames = []string{"", "A", "a b", "a\n", "é", longest + "n"}

// files is a tree in another way: what trees are built of, and held against.
type files map[string][]string

// of builds a tree of these files.
func of(t testing.TB, f files) *tree.Tree {
	t.Helper()
	x := tree.New()
	for name, l := range f {
		if e := x.Add(name); e != api.OK {
			t.Fatalf("Add(%q) = %d", name, e)
		}
		if e := x.Put(name, l); e != api.OK {
			t.Fatalf("Put(%q, %q) = %d", name, l, e)
		}
	}
	return x
}

// text is the text of a tree of these files.
func (f files) text() string {
	s := ""
	for _, name := range slices.Sorted(maps.Keys(f)) {
		s += fmt.Sprintf("%s %d\n", name, len(f[name]))
		for _, l := range f[name] {
			s += l + "\n"
		}
	}
	return s
}

// start is the tree that most prims here are held against.
func start() files {
	return files{"a": {"x", "y", "z"}, "b": nil, "c": {""}}
}

func hunk(name string, at int, old, with []string) prim.Prim {
	return prim.Prim{Kind: prim.Hunk, Name: name, At: at, Old: old, New: with}
}

func add(name string) prim.Prim { return prim.Prim{Kind: prim.Add, Name: name} }

func rm(name string) prim.Prim { return prim.Prim{Kind: prim.Rm, Name: name} }

func move(name, to string) prim.Prim { return prim.Prim{Kind: prim.Move, Name: name, To: to} }

// row is a row of lines, to be written short.
func row(l ...string) []string { return l }

// roomy is a row with room behind it, where a careless append would write.
func roomy(l ...string) []string {
	return append(make([]string, 0, len(l)+8), l...)
}

// spoil writes into all that rows have, and into their room.
func spoil(rows ...[]string) {
	for _, l := range rows {
		l = l[:cap(l)]
		for i := range l {
			l[i] = "written"
		}
	}
}

// alike tells whether both have the same in all fields, without a call of the package.
func alike(p, q prim.Prim) bool {
	return p.Kind == q.Kind && p.Name == q.Name && p.To == q.To && p.At == q.At && slices.Equal(p.Old, q.Old) && slices.Equal(p.New, q.New)
}

// copied is a prim whose rows share nothing with p's, without a call of the package.
func copied(p prim.Prim) prim.Prim {
	p.Old = append([]string{}, p.Old...)
	p.New = append([]string{}, p.New...)
	return p
}

func TestKinds(t *testing.T) { // the constants that the chapter lists
	if got := [...]int{prim.Hunk, prim.Add, prim.Rm, prim.Move, prim.Far}; got != [...]int{0, 1, 2, 3, 1048576} {
		t.Errorf("Hunk, Add, Rm, Move, Far are %d", got)
	}
}

func TestRight(t *testing.T) { // P3.1
	for _, p := range []prim.Prim{
		hunk("a", 0, nil, row("x")),
		hunk("a", 0, row("x"), nil),
		hunk("a", 0, row("x"), row("y")),
		hunk("a", 0, nil, row("")),
		hunk("a", 1, row(""), row("", "")),
		hunk("a", 1, row("x", "y"), row("y", "x")),
		hunk("a", prim.Far-1, row("x"), []string{}),
		hunk("a", prim.Far, nil, row("x")),
		hunk(longest, 0, row(full), row("\r\x00\xff")),
		hunk("/", 0, nil, make([]string, 3*api.MaxLines)), // how many lines there are is another layer's
		add("a"),
		add(longest),
		rm("a"),
		rm(".-_/09az"),
		{Kind: prim.Add, Name: "a", Old: []string{}, New: []string{}}, // an empty row is as good as none
		{Kind: prim.Rm, Name: "a", Old: []string{}, New: []string{}},
		{Kind: prim.Move, Name: "a", To: "b", Old: []string{}, New: []string{}},
		move("a", "b"),
		move("b", "a"),
		move(longest, longest[1:]),
		move("a", "a/"),
	} {
		if !prim.Right(p) {
			t.Errorf("Right(%#v) = false", p)
		}
	}
}

func TestNotRight(t *testing.T) { // P3.1
	wrong := []prim.Prim{
		{},
		hunk("a", 0, nil, nil),
		hunk("a", 0, nil, []string{}),
		hunk("a", 0, []string{}, nil),
		hunk("a", 0, row("x"), row("x")),
		hunk("a", 3, row("x", ""), row("x", "")),
		hunk("a", -1, nil, row("x")),
		hunk("a", math.MinInt, nil, row("x")),
		hunk("a", prim.Far+1, nil, row("x")),
		hunk("a", math.MaxInt, nil, row("x")),
		hunk("a", 0, nil, row("\n")),
		hunk("a", 0, nil, row("x", "y\n", "z")),
		hunk("a", 0, nil, row(full+"x")),
		hunk("a", 0, row("\n"), nil),
		hunk("a", 0, row("x", "y", "z\n"), row("x")),
		hunk("a", 0, row(full+"x"), row("x")),
		{Kind: prim.Hunk, Name: "a", To: "b", New: row("x")},
		{Kind: prim.Hunk, Name: "a", To: "a", New: row("x")},
		move("a", "a"),
	}
	for _, kind := range []int{prim.Add, prim.Rm, prim.Move} {
		to := ""
		if kind == prim.Move {
			to = "b"
		} else {
			wrong = append(wrong, prim.Prim{Kind: kind, Name: "a", To: "b"}, prim.Prim{Kind: kind, Name: "a", To: "a"}, prim.Prim{Kind: kind, Name: "a", To: "A"})
		}
		for _, at := range []int{math.MinInt, -1, 1, prim.Far, math.MaxInt} {
			wrong = append(wrong, prim.Prim{Kind: kind, Name: "a", To: to, At: at})
		}
		for _, l := range [][]string{{""}, {"x"}, {"\n"}} {
			wrong = append(wrong, prim.Prim{Kind: kind, Name: "a", To: to, Old: l}, prim.Prim{Kind: kind, Name: "a", To: to, New: l}, prim.Prim{Kind: kind, Name: "a", To: to, Old: l, New: l})
		}
	}
	for _, name := range notNames {
		wrong = append(wrong, hunk(name, 0, nil, row("x")), add(name), rm(name), move(name, "a"), move("a", name), move(name, name))
	}
	for _, kind := range []int{math.MinInt, -1, 4, 5, math.MaxInt} {
		wrong = append(wrong, prim.Prim{Kind: kind, Name: "a"}, prim.Prim{Kind: kind, Name: "a", To: "b"}, prim.Prim{Kind: kind, Name: "a", New: row("x")})
	}
	for _, p := range wrong {
		if prim.Right(p) {
			t.Errorf("Right(%#v) = true", p)
		}
		x := of(t, start())
		if e := prim.Apply(x, p); e != api.ErrPrimForm || x.Text() != start().text() { // P3.3
			t.Errorf("Apply(%#v) = %d, %q", p, e, x.Text())
		}
		if e := prim.Apply(tree.New(), p); e != api.ErrPrimForm {
			t.Errorf("Apply(%#v) to no files = %d", p, e)
		}
	}
}

func TestSame(t *testing.T) { // P3.1
	unlike := []prim.Prim{
		{},
		{At: 1},
		{At: -1},
		{Kind: -1},
		{Kind: 4},
		{Name: "a"},
		{To: "a"},
		{Name: "a", To: "a"},
		{Name: "ab"},
		{Name: "a", To: "b"},
		{Name: "b", To: "a"},
		{Old: row("x")},
		{New: row("x")},
		{Old: row("x"), New: row("x")},
		{Old: row("x", "y")},
		{Old: row("x"), New: row("y")},
		{Old: row("y"), New: row("x")},
		{New: row("")},
		{New: row("", "")},
		{New: row("X")},
		{New: row("\xff")},
		add("a"),
		add("A"),
		rm("a"),
		move("a", ""),
		move("a", "b"),
		move("b", "a"),
		hunk("a", 0, nil, row("x")),
		hunk("a", 1, nil, row("x")),
		hunk("b", 0, nil, row("x")),
		hunk("a", 0, row("x"), nil),
	}
	for i, p := range unlike {
		for k, q := range unlike {
			if is := prim.Same(p, copied(q)); is != (i == k) {
				t.Errorf("Same(%#v, %#v) = %v", p, q, is)
			}
		}
	}
	if !prim.Same(prim.Prim{Old: []string{}}, prim.Prim{New: []string{}}) {
		t.Error("Same: an empty row is not as good as none")
	}
}

func TestNames(t *testing.T) { // P3.1
	for _, x := range []struct {
		p    prim.Prim
		want []string
	}{
		{hunk("a", 0, nil, row("x")), row("a")},
		{add("a"), row("a")},
		{rm("b"), row("b")},
		{move("a", "b"), row("a", "b")},
		{move("b", "a"), row("a", "b")},
		{move("a", "a"), row("a", "a")},
		{move("a/b", "a-b"), row("a-b", "a/b")},
		{move("9", "10"), row("10", "9")}, // byte by byte
		{move("ab", "a"), row("a", "ab")},
		{move("a", ""), row("", "a")}, // of prims that are not right, too
		{move("", ""), row("", "")},
		{move("a", "A"), row("A", "a")},
		{prim.Prim{}, row("")},
		{prim.Prim{Kind: prim.Hunk, Name: "b", To: "a"}, row("b")}, // To counts of a Move alone
		{prim.Prim{Kind: prim.Add, Name: "b", To: "a"}, row("b")},
		{prim.Prim{Kind: prim.Rm, Name: "b", To: "a"}, row("b")},
		{prim.Prim{Kind: 4, Name: "b", To: "a"}, row("b")},
		{prim.Prim{Kind: -1, Name: "b", To: "a"}, row("b")},
	} {
		if l := prim.Names(x.p); !slices.Equal(l, x.want) {
			t.Errorf("Names(%#v) = %q, want %q", x.p, l, x.want)
		}
		if q := prim.Invert(x.p); !slices.Equal(prim.Names(q), x.want) {
			t.Errorf("Names(Invert(%#v)) = %q, want %q", x.p, prim.Names(q), x.want)
		}
	}
}

func TestNamesAreTheCallersOwn(t *testing.T) { // R6
	for _, p := range []prim.Prim{add("b"), move("b", "a")} {
		was := p
		one, two := prim.Names(p), prim.Names(p)
		spoil(one)
		_ = append(one[:1], "more")
		if !slices.Equal(two, prim.Names(p)) || slices.Contains(two, "written") || !alike(p, was) {
			t.Errorf("Names(%#v), written into: another answer is %q", was, two)
		}
	}
}

func TestInvert(t *testing.T) { // P3.2
	for _, x := range []struct{ p, want prim.Prim }{
		{hunk("a", 3, row("x"), row("y", "z")), hunk("a", 3, row("y", "z"), row("x"))},
		{hunk("a", 0, nil, row("x")), hunk("a", 0, row("x"), nil)},
		{hunk("a", prim.Far, row("x"), nil), hunk("a", prim.Far, nil, row("x"))},
		{hunk("a", 1, row("x"), row("x")), hunk("a", 1, row("x"), row("x"))},
		{hunk("a", -1, row("\n"), nil), hunk("a", -1, nil, row("\n"))},
		{add("a"), rm("a")},
		{rm("a"), add("a")},
		{add(""), rm("")},
		{move("a", "b"), move("b", "a")},
		{move("a", "a"), move("a", "a")},
		{move("a", ""), move("", "a")},
		{prim.Prim{}, prim.Prim{}},
		// What should be empty and is not stays where it is.
		{prim.Prim{Kind: prim.Hunk, Name: "a", To: "b", At: 1, Old: row("x")}, prim.Prim{Kind: prim.Hunk, Name: "a", To: "b", At: 1, New: row("x")}},
		{prim.Prim{Kind: prim.Add, Name: "a", To: "b", At: 1, Old: row("x"), New: row("y")}, prim.Prim{Kind: prim.Rm, Name: "a", To: "b", At: 1, Old: row("x"), New: row("y")}},
		{prim.Prim{Kind: prim.Rm, Name: "a", To: "b", At: 1, Old: row("x"), New: row("y")}, prim.Prim{Kind: prim.Add, Name: "a", To: "b", At: 1, Old: row("x"), New: row("y")}},
		{prim.Prim{Kind: prim.Move, Name: "a", To: "b", At: 1, Old: row("x"), New: row("y")}, prim.Prim{Kind: prim.Move, Name: "b", To: "a", At: 1, Old: row("x"), New: row("y")}},
		{prim.Prim{Kind: 4, Name: "a", To: "b", At: 5, Old: row("x"), New: row("y")}, prim.Prim{Kind: 4, Name: "a", To: "b", At: 5, Old: row("x"), New: row("y")}},
		{prim.Prim{Kind: -1, Name: "a", To: "b", At: -5, Old: row("\n")}, prim.Prim{Kind: -1, Name: "a", To: "b", At: -5, Old: row("\n")}},
		{prim.Prim{Kind: math.MaxInt, New: row("x")}, prim.Prim{Kind: math.MaxInt, New: row("x")}},
	} {
		if q := prim.Invert(x.p); !alike(q, x.want) {
			t.Errorf("Invert(%#v) = %#v, want %#v", x.p, q, x.want)
		}
	}
}

// roomyPrims are prims of all kinds, and of two that are none, with rows that have room, or share it.
func roomyPrims() []prim.Prim {
	var all []prim.Prim
	for kind := -1; kind <= 4; kind++ {
		all = append(all, prim.Prim{Kind: kind, Name: "a", To: "b", At: 1, Old: roomy("x", "y"), New: roomy("z")})
		shared := roomy("x", "y", "z")
		all = append(all, prim.Prim{Kind: kind, Name: "a", Old: shared[:1], New: shared[1:]})  // two rows in one
		all = append(all, prim.Prim{Kind: kind, Name: "a", Old: shared[:0], New: shared[:0]})  // no lines, with room
		all = append(all, prim.Prim{Kind: kind, Name: "a", Old: shared[1:2], New: shared[:2]}) // that overlap
	}
	return all
}

// made are the calls that tell a prim of a prim.
var made = []struct {
	name string
	call func(prim.Prim) prim.Prim
}{
	{"Clone", prim.Clone},
	{"Invert", prim.Invert},
}

func TestClone(t *testing.T) { // P3.1
	for _, p := range append(roomyPrims(), prim.Prim{}, add("a"), rm("A"), move("a", "b"), hunk("a", -1, nil, []string{})) {
		if q := prim.Clone(p); !alike(p, q) || !prim.Same(p, q) {
			t.Errorf("Clone(%#v) = %#v", p, q)
		}
	}
}

func TestLinesOfItsOwn(t *testing.T) { // P3.1, R5, R6
	for _, m := range made {
		for i := range roomyPrims() {
			p, was := roomyPrims()[i], copied(roomyPrims()[i])
			q := m.call(p)
			told := copied(q)
			if !alike(p, was) {
				t.Fatalf("%s changes %#v to %#v", m.name, was, p)
			}
			spoil(q.Old)
			if !slices.Equal(q.New, told.New) {
				t.Errorf("%s(%#v): Old and New of it share", m.name, was)
			}
			spoil(q.New)
			_, _ = append(q.Old, "more"), append(q.New, "more")
			if !alike(p, was) || slices.Contains(p.Old[:cap(p.Old)], "written") || slices.Contains(p.New[:cap(p.New)], "written") {
				t.Errorf("%s(%#v), written into: the prim is %#v", m.name, was, p)
			}
			again := m.call(p)
			spoil(p.Old, p.New)
			if !alike(again, told) {
				t.Errorf("%s(%#v) is %#v, when the prim is written into", m.name, was, again)
			}
		}
	}
}

func TestApply(t *testing.T) { // P3.3, P3.4
	for _, x := range []struct {
		p    prim.Prim
		want files
	}{
		{hunk("a", 1, row("y"), row("z", "z")), files{"a": {"x", "z", "z", "z"}, "b": nil, "c": {""}}},
		{hunk("a", 0, nil, row("q")), files{"a": {"q", "x", "y", "z"}, "b": nil, "c": {""}}},
		{hunk("a", 0, row("x"), nil), files{"a": {"y", "z"}, "b": nil, "c": {""}}},
		{hunk("a", 0, row("x", "y", "z"), []string{}), files{"a": nil, "b": nil, "c": {""}}},
		{hunk("a", 0, row("x", "y", "z"), row("z", "y", "x")), files{"a": {"z", "y", "x"}, "b": nil, "c": {""}}},
		{hunk("a", 2, row("z"), row(full)), files{"a": {"x", "y", full}, "b": nil, "c": {""}}},
		{hunk("a", 3, nil, row("q", "")), files{"a": {"x", "y", "z", "q", ""}, "b": nil, "c": {""}}}, // at the file's end
		{hunk("b", 0, nil, row("")), files{"a": {"x", "y", "z"}, "b": {""}, "c": {""}}},
		{hunk("c", 0, row(""), row("", "")), files{"a": {"x", "y", "z"}, "b": nil, "c": {"", ""}}},
		{hunk("c", 1, []string{}, row("q")), files{"a": {"x", "y", "z"}, "b": nil, "c": {"", "q"}}},
		{hunk("b", 0, nil, make([]string, 2*api.MaxLines)), files{"a": {"x", "y", "z"}, "b": make([]string, 2*api.MaxLines), "c": {""}}},
		{add("d"), files{"a": {"x", "y", "z"}, "b": nil, "c": {""}, "d": nil}},
		{add(longest), files{"a": {"x", "y", "z"}, "b": nil, "c": {""}, longest: nil}},
		{rm("b"), files{"a": {"x", "y", "z"}, "c": {""}}},
		{move("a", "d"), files{"d": {"x", "y", "z"}, "b": nil, "c": {""}}},
		{move("b", "0"), files{"a": {"x", "y", "z"}, "0": nil, "c": {""}}},
	} {
		y, was := of(t, start()), copied(x.p)
		if e := prim.Apply(y, x.p); e != api.OK || y.Text() != x.want.text() {
			t.Errorf("Apply(%#v) = %d, %q, want %q", x.p, e, y.Text(), x.want.text())
		}
		if e := prim.Apply(y, prim.Invert(x.p)); e != api.OK || y.Text() != start().text() || !tree.Same(y, of(t, start())) {
			t.Errorf("Apply(Invert(%#v)) = %d, %q", x.p, e, y.Text())
		}
		if !alike(x.p, was) {
			t.Errorf("Apply changes %#v to %#v", was, x.p)
		}
	}
}

func TestApplyDoesNotFit(t *testing.T) { // P3.3
	for _, p := range []prim.Prim{
		hunk("d", 0, nil, row("q")), // no such file
		hunk("d", 0, row("x"), nil),
		hunk("a", 0, row("y"), nil), // it stands elsewhere
		hunk("a", 1, row("x"), row("q")),
		hunk("a", 0, row("x", "z"), nil),
		hunk("a", 0, row("x", "y", "q"), row("x", "y", "z")),
		hunk("a", 0, row("x", "y", "z", ""), nil), // longer than the file
		hunk("a", 2, row("z", "x"), nil),
		hunk("a", 3, row(""), nil),
		hunk("a", 3, row("z"), nil),
		hunk("a", 4, nil, row("q")), // one past the file's end
		hunk("a", 4, row("x"), nil),
		hunk("a", prim.Far, nil, row("q")),
		hunk("b", 0, row(""), nil), // no lines are not one empty line
		hunk("b", 1, nil, row("q")),
		hunk("c", 0, row("x"), nil),
		hunk("a", 0, row("X"), nil),
		add("a"), // one that is there
		add("b"),
		rm("a"), // it has lines
		rm("c"),
		rm("d"), // no such file
		move("d", "e"),
		move("d", "a"),
		move("a", "b"), // one To that is there
		move("b", "a"),
		move("b", "c"),
	} {
		x := of(t, start())
		if e := prim.Apply(x, p); e != api.ErrPrimFits || x.Text() != start().text() {
			t.Errorf("Apply(%#v) = %d, %q", p, e, x.Text())
		}
		if !prim.Right(p) {
			t.Errorf("Right(%#v) = false", p)
		}
	}
}

func TestApplyKeepsNothingHandedIn(t *testing.T) { // R5, R6
	x := of(t, files{"a": {"x", "y"}})
	p := hunk("a", 0, roomy("x", "y"), roomy("q", "r"))
	if e := prim.Apply(x, p); e != api.OK {
		t.Fatalf("Apply = %d", e)
	}
	if !slices.Equal(p.Old[:cap(p.Old)], roomy("x", "y")[:cap(p.Old)]) || !slices.Equal(p.New[:cap(p.New)], roomy("q", "r")[:cap(p.New)]) {
		t.Errorf("Apply: the prim is %#v", p)
	}
	spoil(p.Old, p.New)
	if s := x.Text(); s != "a 2\nq\nr\n" {
		t.Errorf("the prim is written into: the tree is %q", s)
	}
	p = hunk("a", 0, row("q", "r"), roomy("s"))
	c := x.Copy()
	prim.Apply(c, p)
	l, _ := c.Get("a")
	spoil(l)
	c.Put("a", row("other"))
	prim.Apply(c, hunk("a", 0, row("other"), row("others")))
	if !slices.Equal(p.New, row("s")) || !slices.Equal(p.Old, row("q", "r")) {
		t.Errorf("the tree is changed: the prim is %#v", p)
	}
	if s := x.Text(); s != "a 2\nq\nr\n" {
		t.Errorf("a copy is changed: the tree is %q", s)
	}
}

func TestApplyTwice(t *testing.T) { // P3.3: one prim may be applied to many trees, and again behind its undoing
	for _, p := range []prim.Prim{hunk("a", 1, roomy("y"), roomy("q")), add("d"), rm("b"), move("a", "d")} {
		x, y := of(t, start()), of(t, start())
		for range 3 {
			if e := prim.Apply(x, p); e != api.OK {
				t.Errorf("Apply(%#v) = %d", p, e)
			}
			if e := prim.Apply(x, p); e != api.ErrPrimFits {
				t.Errorf("Apply(%#v) twice = %d", p, e)
			}
			if y.Text() != start().text() {
				t.Errorf("Apply(%#v): another tree is %q", p, y.Text())
			}
			if e := prim.Apply(x, prim.Invert(p)); e != api.OK || !tree.Same(x, y) {
				t.Errorf("Apply(Invert(%#v)) = %d, %q", p, e, x.Text())
			}
		}
	}
}

// wrongs tells how many of the chapter's conditions a prim breaks: what Right asks, in another way.
func wrongs(p prim.Prim) int {
	n := 0
	must := func(is bool) {
		if !is {
			n++
		}
	}
	lines := append(append([]string{}, p.Old...), p.New...)
	must(slices.Contains([]int{prim.Hunk, prim.Add, prim.Rm, prim.Move}, p.Kind))
	must(tree.Named(p.Name))
	must(p.Kind == prim.Move || p.To == "")
	must(p.Kind != prim.Move || tree.Named(p.To) && p.To != p.Name)
	must(p.Kind == prim.Hunk || p.At == 0 && len(lines) == 0)
	must(p.Kind != prim.Hunk || p.At >= 0 && p.At <= prim.Far)
	must(p.Kind != prim.Hunk || strings.Join(p.Old, "\n")+"|"+fmt.Sprint(len(p.Old)) != strings.Join(p.New, "\n")+"|"+fmt.Sprint(len(p.New)))
	for _, l := range lines {
		must(len(l) <= api.MaxLine && !strings.Contains(l, "\n"))
	}
	return n
}

// plain is what Apply asks, on files; those that are told are new ones.
func plain(f files, p prim.Prim) (files, api.Errno) {
	if wrongs(p) > 0 {
		return f, api.ErrPrimForm
	}
	g := maps.Clone(f)
	l, is := g[p.Name]
	_, there := g[p.To]
	switch {
	case p.Kind == prim.Hunk && is:
		k := p.At + len(p.Old)
		if k > len(l) || fmt.Sprintf("%q", l[p.At:k]) != fmt.Sprintf("%q", p.Old) {
			return f, api.ErrPrimFits
		}
		g[p.Name] = slices.Concat(l[:p.At], p.New, l[k:])
	case p.Kind == prim.Add && !is:
		g[p.Name] = nil
	case p.Kind == prim.Rm && is && len(l) == 0:
		delete(g, p.Name)
	case p.Kind == prim.Move && is && !there:
		delete(g, p.Name)
		g[p.To] = l
	default:
		return f, api.ErrPrimFits
	}
	return g, api.OK
}

// all hands on each prim of few values a field, right ones and wrong ones.
func all(yield func(prim.Prim) bool) {
	rows := [][]string{nil, {}, {"x"}, {"x", "y"}, {""}, {full}, {full + "x"}, {"x\n"}}
	for kind := -1; kind <= 4; kind++ {
		for _, name := range []string{"a", "b", "A", ""} {
			for _, to := range []string{"", "a", "b", "c", "B"} {
				for _, at := range []int{math.MinInt, -1, 0, 1, 2, 3, prim.Far, prim.Far + 1, math.MaxInt} {
					for _, old := range rows {
						for _, with := range rows {
							if !yield(prim.Prim{Kind: kind, Name: name, To: to, At: at, Old: old, New: with}) {
								return
							}
						}
					}
				}
			}
		}
	}
}

func TestAllRightAndInverted(t *testing.T) { // P3.1, P3.2, P3.4
	for p := range all {
		if is := prim.Right(p); is != (wrongs(p) == 0) {
			t.Fatalf("Right(%#v) = %v", p, is)
		}
		q := prim.Invert(p)
		if back := prim.Invert(q); !alike(back, p) || !prim.Same(back, p) {
			t.Fatalf("Invert(Invert(%#v)) = %#v", p, back)
		}
		if prim.Right(q) != prim.Right(p) {
			t.Fatalf("Right(Invert(%#v)) = %v", p, prim.Right(q))
		}
		if prim.Same(p, q) != alike(p, q) || prim.Right(p) && prim.Same(p, q) {
			t.Fatalf("Same(%#v, %#v) = %v", p, q, prim.Same(p, q))
		}
	}
}

func TestAllApplied(t *testing.T) { // P3.3, P3.4
	for _, f := range []files{
		{},
		{"a": nil},
		{"a": {"x"}},
		{"a": {"x", "y"}},
		{"a": {"x", "x", "y"}, "b": {""}},
		{"a": {"", full}, "b": nil, "c": {"x"}},
		{"b": {"x", "", "x", "y"}},
	} {
		was := f.text()
		x := of(t, f)
		for p := range all {
			g, want := plain(f, p)
			if e := prim.Apply(x, p); e != want || x.Text() != g.text() {
				t.Fatalf("Apply(%#v) to %q = %d, %q, want %d, %q", p, was, e, x.Text(), want, g.text())
			}
			if want != api.OK {
				continue
			}
			if e := prim.Apply(x, prim.Invert(p)); e != api.OK || x.Text() != was {
				t.Fatalf("Apply(Invert(%#v)) to %q = %d, %q, want %q", p, g.text(), e, x.Text(), was)
			}
		}
	}
}

// few are prims of which a row may be applied to the tree without files.
func few() []prim.Prim {
	l := []prim.Prim{hunk("a", 1, nil, row("y")), hunk("b", 0, row("x"), row("y", "x"))}
	for _, name := range []string{"a", "b"} {
		l = append(l, add(name), rm(name), hunk(name, 0, nil, row("x")), hunk(name, 0, row("x"), nil))
	}
	return append(l, move("a", "b"), move("b", "a"))
}

// through applies each prim that fits, and goes on from there; what was applied is undone, the last one first.
func through(t *testing.T, x *tree.Tree, f files, left int) {
	for _, p := range few() {
		g, want := plain(f, p)
		if e := prim.Apply(x, p); e != want || x.Text() != g.text() {
			t.Fatalf("Apply(%#v) to %q = %d, %q, want %d, %q", p, f.text(), e, x.Text(), want, g.text())
		}
		if want != api.OK {
			continue
		}
		if left > 1 {
			through(t, x, g, left-1)
		}
		if e := prim.Apply(x, prim.Invert(p)); e != api.OK || x.Text() != f.text() {
			t.Fatalf("Apply(Invert(%#v)) to %q = %d, %q", p, g.text(), e, x.Text())
		}
	}
}

func TestRowsAppliedAndUndone(t *testing.T) { // P3.3, P3.4
	x := tree.New()
	through(t, x, files{}, 6)
	if x.Text() != "" {
		t.Errorf("all is undone: %q", x.Text())
	}
}
