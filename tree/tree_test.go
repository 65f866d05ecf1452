package tree_test

import (
	"fmt"
	"slices"
	"strings"
	"testing"

	"quiltwork/api"
	"quiltwork/line"
	"quiltwork/tree"
)

// file is a name and what stands in it: what a tree is built of, and held against.
type file struct {
	name  string
	lines []string
}

// of builds a tree of these files.
func of(t *testing.T, files ...file) *tree.Tree {
	t.Helper()
	x := tree.New()
	for _, f := range files {
		if e := x.Add(f.name); e != api.OK {
			t.Fatalf("Add(%q) = %d", f.name, e)
		}
		if e := x.Put(f.name, f.lines); e != api.OK {
			t.Fatalf("Put(%q, %q) = %d", f.name, f.lines, e)
		}
	}
	return x
}

// text is what P2.3 asks for, of files that stand rising.
func text(files []file) string {
	s := ""
	for _, f := range files {
		s += fmt.Sprintf("%s %d\n", f.name, len(f.lines))
		for _, l := range f.lines {
			s += l + "\n"
		}
	}
	return s
}

// holds fails unless x has just these files, which stand rising, by all that tells of it.
func holds(t *testing.T, when string, x *tree.Tree, files ...file) {
	t.Helper()
	var names []string
	many := 0
	for _, f := range files {
		names = append(names, f.name)
		many += len(f.lines)
		if l, is := x.Get(f.name); !is || !slices.Equal(l, f.lines) {
			t.Errorf("%s: Get(%q) = %q, %v, want %q", when, f.name, l, is, f.lines)
		}
	}
	if got := x.Names(); !slices.Equal(got, names) {
		t.Errorf("%s: Names() = %q, want %q", when, got, names)
	}
	if n, m := x.Many(); n != len(files) || m != many {
		t.Errorf("%s: Many() = %d, %d, want %d, %d", when, n, m, len(files), many)
	}
	if s := x.Text(); s != text(files) {
		t.Errorf("%s: Text() = %q, want %q", when, s, text(files))
	}
}

// roomy is a row with room behind it, where a careless append would write.
func roomy(l ...string) []string {
	return append(make([]string, 0, len(l)+8), l...)
}

// spoil writes into all that a row has, and into its room.
func spoil(l []string) {
	l = l[:cap(l)]
	for i := range l {
		l[i] = "written"
	}
}

var (
	longest = strings.Repeat("n", api.MaxName)
	full    = strings.Repeat("x", api.MaxLine)
)

func TestNew(t *testing.T) { // P2.1
	x := tree.New()
	holds(t, "New", x)
	if l, is := x.Get("a"); l != nil || is {
		t.Errorf("Get of a tree without files = %q, %v", l, is)
	}
	x.Add("a")
	holds(t, "New, again", tree.New())
}

func TestNamed(t *testing.T) { // P2.1
	for _, x := range []struct {
		s    string
		want bool
	}{
		{"", false},
		{"a", true},
		{"0", true},
		{".", true},
		{"-", true},
		{"_", true},
		{"/", true},
		{"..", true},
		{"//", true},
		{"a/b-c_d.0", true},
		{longest[1:], true},
		{longest, true},
		{longest + "n", false},
		{strings.Repeat("n", 1000), false},
		{"A", false},
		{"aB", false},
		{" ", false},
		{"a b", false},
		{" a", false},
		{"a ", false},
		{"a\n", false},
		{"\na", false},
		{"a\x00", false},
		{"é", false},
		{"a\u0301", false},
		{"\uff41", false},
		{"a\xff", false},
		{longest[1:] + "N", false},
		{"N" + longest[1:], false},
	} {
		if is := tree.Named(x.s); is != x.want {
			t.Errorf("Named(%q) = %v", x.s, is)
		}
	}
}

func TestNamedByEachByte(t *testing.T) { // P2.1
	const may = "abcdefghijklmnopqrstuvwxyz0123456789.-_/"
	for c := range 256 {
		b := string([]byte{byte(c)})
		want := strings.Contains(may, b)
		for _, s := range []string{b, b + "a", "a" + b, "a" + b + "a", longest[1:] + b} {
			if is := tree.Named(s); is != want {
				t.Errorf("Named(%q) = %v", s, is)
			}
			wanted := api.ErrTreeName
			if want {
				wanted = api.OK
			}
			x := tree.New()
			if e := x.Add(s); e != wanted {
				t.Errorf("Add(%q) = %d", s, e)
			}
			if n, _ := x.Many(); (n == 1) != want {
				t.Errorf("Add(%q): %d files", s, n)
			}
		}
	}
}

func TestGet(t *testing.T) { // P2.1
	x := of(t, file{"a", []string{"x", "", full}}, file{"b", nil})
	for _, y := range []struct {
		name string
		want []string
		is   bool
	}{
		{"a", []string{"x", "", full}, true},
		{"b", nil, true}, // a file without lines is there
		{"c", nil, false},
		{"A", nil, false},
		{"a ", nil, false},
		{"", nil, false},
		{longest + "n", nil, false},
	} {
		l, is := x.Get(y.name)
		if !slices.Equal(l, y.want) || is != y.is {
			t.Errorf("Get(%q) = %q, %v", y.name, l, is)
		}
		if !is && l != nil {
			t.Errorf("Get(%q): a list beside false", y.name)
		}
	}
	if _, is := x.Get("c"); is {
		t.Error("Get made a file")
	}
	holds(t, "Get", x, file{"a", []string{"x", "", full}}, file{"b", nil})
}

func TestNamesRise(t *testing.T) { // P2.1, R4, R7
	want := []string{"-", ".", "/", "0", "10", "9", "_", "a", "a-", "a.", "a.b", "a/", "a/b", "a0", "a_", "aa", "ab", "b", longest, "z"}
	for turn := range len(want) {
		x := tree.New()
		for i := range want {
			x.Add(want[(turn+i*7)%len(want)]) // 7 shares no factor with 20: all come, in an order far from rising
		}
		for range 5 {
			if got := x.Names(); !slices.Equal(got, want) {
				t.Fatalf("Names() = %q, want %q", got, want)
			}
		}
	}
}

func TestMany(t *testing.T) { // P2.1
	for _, y := range []struct {
		files       []file
		many, lines int
	}{
		{nil, 0, 0},
		{[]file{{"a", nil}}, 1, 0},
		{[]file{{"a", nil}, {"b", nil}}, 2, 0},
		{[]file{{"a", []string{""}}}, 1, 1},
		{[]file{{"a", []string{"", "", ""}}, {"b", nil}, {"c", []string{"x", "y"}}}, 3, 5},
	} {
		if n, m := of(t, y.files...).Many(); n != y.many || m != y.lines {
			t.Errorf("Many() of %q = %d, %d", y.files, n, m)
		}
	}
}

// The limits of how many files, and lines, there are belong to another layer.
func TestMoreThanTheModelTakes(t *testing.T) { // P2.2
	x := tree.New()
	for i := range 2 * api.MaxFiles {
		name := fmt.Sprintf("f%d", i)
		if e := x.Add(name); e != api.OK {
			t.Fatalf("Add of file %d = %d", i, e)
		}
		if e := x.Put(name, make([]string, 2*api.MaxLines)); e != api.OK {
			t.Fatalf("Put of many lines = %d", e)
		}
	}
	if n, m := x.Many(); n != 2*api.MaxFiles || m != 4*api.MaxFiles*api.MaxLines {
		t.Errorf("Many() = %d, %d", n, m)
	}
}

func TestAdd(t *testing.T) { // P2.2
	x := of(t, file{"a", []string{"x"}})
	for _, y := range []struct {
		name string
		want api.Errno
	}{
		{"a", api.ErrTreeTwice},
		{"", api.ErrTreeName},
		{"A", api.ErrTreeName},
		{"a b", api.ErrTreeName},
		{longest + "n", api.ErrTreeName},
	} {
		if e := x.Add(y.name); e != y.want {
			t.Errorf("Add(%q) = %d, want %d", y.name, e, y.want)
		}
		holds(t, "Add with an error", x, file{"a", []string{"x"}})
	}
	if e := x.Add(longest); e != api.OK {
		t.Errorf("Add of the longest name = %d", e)
	}
	holds(t, "Add", x, file{"a", []string{"x"}}, file{longest, nil})
	if e := x.Add(longest); e != api.ErrTreeTwice {
		t.Errorf("Add of an empty file that is there = %d", e)
	}
}

func TestRemove(t *testing.T) { // P2.2
	x := of(t, file{"a", []string{"x"}}, file{"b", nil}, file{"c", []string{""}})
	for _, y := range []struct {
		name string
		want api.Errno
	}{
		{"a", api.ErrTreeFull},
		{"c", api.ErrTreeFull}, // one empty line is a line
		{"d", api.ErrTreeName},
		{"", api.ErrTreeName},
		{"A", api.ErrTreeName},
		{longest + "n", api.ErrTreeName},
	} {
		if e := x.Remove(y.name); e != y.want {
			t.Errorf("Remove(%q) = %d, want %d", y.name, e, y.want)
		}
		holds(t, "Remove with an error", x, file{"a", []string{"x"}}, file{"b", nil}, file{"c", []string{""}})
	}
	if e := x.Remove("b"); e != api.OK {
		t.Errorf("Remove(b) = %d", e)
	}
	holds(t, "Remove", x, file{"a", []string{"x"}}, file{"c", []string{""}})
	if _, is := x.Get("b"); is {
		t.Error("Get of what was removed: true")
	}
	if e := x.Remove("b"); e != api.ErrTreeName {
		t.Errorf("Remove(b) twice = %d", e)
	}
	for _, none := range [][]string{nil, {}} {
		x.Put("a", []string{"x"})
		x.Put("a", none)
		if e := x.Remove("a"); e != api.OK {
			t.Errorf("Remove of a file whose lines were taken = %d", e)
		}
		x.Add("a")
	}
}

func TestMove(t *testing.T) { // P2.2
	was := []file{{"a", []string{"x", "y"}}, {"b", nil}, {"c", []string{"z"}}}
	x := of(t, was...)
	for _, y := range []struct {
		from, to string
		want     api.Errno
	}{
		{"a", "a", api.ErrTreeTwice},
		{"b", "b", api.ErrTreeTwice},
		{"a", "b", api.ErrTreeTwice},
		{"b", "a", api.ErrTreeTwice},
		{"a", "c", api.ErrTreeTwice},
		{"a", "", api.ErrTreeName},
		{"a", "A", api.ErrTreeName},
		{"a", longest + "n", api.ErrTreeName},
		{"d", "e", api.ErrTreeName},
		{"d", "d", api.ErrTreeName},
		{"d", "a", api.ErrTreeName}, // the error that is named first
		{"d", "A", api.ErrTreeName},
		{"", "d", api.ErrTreeName},
		{"", "", api.ErrTreeName},
		{"A", "A", api.ErrTreeName},
	} {
		if e := x.Move(y.from, y.to); e != y.want {
			t.Errorf("Move(%q, %q) = %d, want %d", y.from, y.to, e, y.want)
		}
		holds(t, "Move with an error", x, was...)
	}
	if e := x.Move("a", longest); e != api.OK {
		t.Errorf("Move(a, %q) = %d", longest, e)
	}
	holds(t, "Move", x, file{"b", nil}, file{"c", []string{"z"}}, file{longest, []string{"x", "y"}})
	if e := x.Move("a", "d"); e != api.ErrTreeName {
		t.Errorf("Move of what was moved away = %d", e)
	}
	if e := x.Move("b", "a"); e != api.OK {
		t.Errorf("Move to a name that is free again = %d", e)
	}
	holds(t, "Move of an empty file", x, file{"a", nil}, file{"c", []string{"z"}}, file{longest, []string{"x", "y"}})
}

func TestPut(t *testing.T) { // P2.2
	x := of(t, file{"a", []string{"x"}}, file{"b", nil})
	for _, y := range []struct {
		name string
		l    []string
		want api.Errno
	}{
		{"c", nil, api.ErrTreeName},
		{"c", []string{"x"}, api.ErrTreeName},
		{"", nil, api.ErrTreeName},
		{"A", []string{"x"}, api.ErrTreeName},
		{"c", []string{"\n"}, api.ErrTreeName}, // the error that is named first
		{"A", []string{full + "x"}, api.ErrTreeName},
		{"a", []string{"\n"}, api.ErrArg},
		{"a", []string{"y", "z\n"}, api.ErrArg},
		{"a", []string{"\ny", "z"}, api.ErrArg},
		{"a", []string{"y", "y\nz", "z"}, api.ErrArg},
		{"a", []string{full + "x"}, api.ErrArg},
		{"b", []string{full, full + "x"}, api.ErrArg},
	} {
		if e := x.Put(y.name, y.l); e != y.want {
			t.Errorf("Put(%q, %q) = %d, want %d", y.name, y.l, e, y.want)
		}
		holds(t, "Put with an error", x, file{"a", []string{"x"}}, file{"b", nil})
	}
	for _, l := range [][]string{{"y"}, {"y", "z"}, {full, ""}, {""}, nil, {"", "", ""}, {}, {"a 1", "\r", "\xff\x00"}} {
		if e := x.Put("a", l); e != api.OK {
			t.Errorf("Put(a, %q) = %d", l, e)
		}
		holds(t, "Put", x, file{"a", l}, file{"b", nil})
	}
}

func TestPutKeepsNothingHandedIn(t *testing.T) { // R5, R6
	x := of(t, file{"a", nil}, file{"b", nil})
	l := roomy("x", "y")
	x.Put("a", l)
	x.Put("b", l[:1])
	if all := l[:cap(l)]; !slices.Equal(all, []string{"x", "y", "", "", "", "", "", "", "", ""}) {
		t.Errorf("Put: what was handed in is %q", all)
	}
	spoil(l)
	holds(t, "what was put is written into", x, file{"a", []string{"x", "y"}}, file{"b", []string{"x"}})
}

func TestGetIsTheCallersOwn(t *testing.T) { // R6
	was := []file{{"a", []string{"x", "y"}}, {"b", nil}}
	x := of(t, was...)
	one, _ := x.Get("a")
	two, _ := x.Get("a")
	spoil(one)
	_ = append(one[:1], "z")
	if !slices.Equal(two, []string{"x", "y"}) {
		t.Errorf("two answers of Get share: %q", two)
	}
	none, _ := x.Get("b")
	_ = append(none, "z")
	holds(t, "what was got is written into", x, was...)
	x.Put("a", []string{"z"})
	if !slices.Equal(two, []string{"x", "y"}) {
		t.Errorf("what was got, behind a Put: %q", two)
	}
	x.Put("a", two)
	spoil(two)
	holds(t, "what was got, and put again, is written into", x, was...)
}

func TestNamesAreTheCallersOwn(t *testing.T) { // R6
	x := of(t, file{"a", nil}, file{"b", nil})
	one, two := x.Names(), x.Names()
	spoil(one)
	if !slices.Equal(two, []string{"a", "b"}) {
		t.Errorf("two answers of Names share: %q", two)
	}
	holds(t, "Names are written into", x, file{"a", nil}, file{"b", nil})
}

// changes are one of each kind, that all fit the tree of TestCopy.
func changes(x *tree.Tree) []api.Errno {
	return []api.Errno{x.Put("a", []string{"new"}), x.Remove("b"), x.Move("c", "d"), x.Add("e")}
}

func TestCopy(t *testing.T) { // P2.1, R6
	was := []file{{"a", []string{"x", "y"}}, {"b", nil}, {"c", []string{"z"}}}
	will := []file{{"a", []string{"new"}}, {"d", []string{"z"}}, {"e", nil}}
	x := of(t, was...)
	c := x.Copy()
	holds(t, "Copy", c, was...)
	holds(t, "what was copied", x, was...)
	if !tree.Same(x, c) || !tree.Same(c, x) {
		t.Error("Copy is not the same")
	}
	for _, e := range changes(c) {
		if e != api.OK {
			t.Fatalf("a change of the copy = %d", e)
		}
	}
	holds(t, "a copy that was changed", c, will...)
	holds(t, "what was copied, when the copy is changed", x, was...)
	c = x.Copy()
	cc := c.Copy()
	changes(x)
	holds(t, "the copy, when what was copied is changed", c, was...)
	changes(c)
	holds(t, "the copy of the copy", cc, was...)
	l, _ := c.Get("a")
	spoil(l)
	holds(t, "the copy, when what it told is written into", c, will...)
}

func TestCopyOfNothing(t *testing.T) { // P2.1
	x := tree.New()
	c := x.Copy()
	if e := c.Add("a"); e != api.OK {
		t.Errorf("Add to a copy of no files = %d", e)
	}
	holds(t, "the copy", c, file{"a", nil})
	holds(t, "what was copied", x)
}

func TestText(t *testing.T) { // P2.3
	many := make([]string, 12)
	for _, y := range []struct {
		files []file
		want  string
	}{
		{nil, ""},
		{[]file{{"a", nil}}, "a 0\n"},
		{[]file{{"a", []string{"x", "y"}}}, "a 2\nx\ny\n"},
		{[]file{{"a", []string{""}}}, "a 1\n\n"},
		{[]file{{"b", nil}, {"a", nil}}, "a 0\nb 0\n"},
		{[]file{{"b", []string{"z"}}, {"a/b", nil}, {"a", []string{"x", ""}}}, "a 2\nx\n\na/b 0\nb 1\nz\n"},
		{[]file{{"a", []string{"b 0"}}}, "a 1\nb 0\n"},
		{[]file{{"a", many}}, "a 12\n" + strings.Repeat("\n", 12)},
		{[]file{{longest, []string{full}}}, longest + " 1\n" + full + "\n"},
		{[]file{{"a", []string{"\xff", " "}}}, "a 2\n\xff\n \n"},
	} {
		x := of(t, y.files...)
		for range 3 {
			if s := x.Text(); s != y.want {
				t.Errorf("Text() = %q, want %q", s, y.want)
			}
		}
	}
}

func TestSame(t *testing.T) { // P2.1
	for _, y := range []struct {
		a, b []file
		want bool
	}{
		{nil, nil, true},
		{nil, []file{{"a", nil}}, false},
		{[]file{{"a", nil}}, []file{{"a", nil}}, true},
		{[]file{{"a", nil}}, []file{{"b", nil}}, false},
		{[]file{{"a", nil}}, []file{{"a", []string{}}}, true},
		{[]file{{"a", nil}}, []file{{"a", []string{""}}}, false},
		{[]file{{"a", nil}, {"b", nil}}, []file{{"b", nil}, {"a", nil}}, true}, // in whatever order they came
		{[]file{{"a", nil}, {"b", nil}}, []file{{"a", nil}}, false},
		{[]file{{"a", nil}, {"b", nil}}, []file{{"a", nil}, {"c", nil}}, false},
		{[]file{{"a", []string{"x"}}}, []file{{"a", []string{"x"}}}, true},
		{[]file{{"a", []string{"x"}}}, []file{{"a", []string{"y"}}}, false},
		{[]file{{"a", []string{"x", "y"}}}, []file{{"a", []string{"y", "x"}}}, false},
		{[]file{{"a", []string{"x"}}, {"b", nil}}, []file{{"a", nil}, {"b", []string{"x"}}}, false},
		{[]file{{"a", []string{"b 0"}}}, []file{{"a", nil}, {"b", nil}}, false},
	} {
		a, b := of(t, y.a...), of(t, y.b...)
		if tree.Same(a, b) != y.want || tree.Same(b, a) != y.want {
			t.Errorf("Same of %q and %q is not %v", y.a, y.b, y.want)
		}
		if !tree.Same(a, a) || !tree.Same(b, b) {
			t.Errorf("Same of %q, or %q, and itself: false", y.a, y.b)
		}
		if (a.Text() == b.Text()) != y.want { // P2.4
			t.Errorf("the texts of %q and %q", y.a, y.b)
		}
	}
}

// kinds tells all trees of the files a and b with few lines, one of which looks like a file's head.
func kinds(t *testing.T) []*tree.Tree {
	lines := [][]string{nil, {""}, {"x"}, {"b 0"}, {"b 1"}, {"", ""}, {"x", "b 0"}, {"b 0", "x"}, {"b 1", "x"}}
	all := []*tree.Tree{tree.New()}
	for _, l := range lines {
		all = append(all, of(t, file{"a", l}), of(t, file{"b", l}))
		for _, m := range lines {
			all = append(all, of(t, file{"b", m}, file{"a", l}))
		}
	}
	return all
}

func TestSameJustIfTextsAre(t *testing.T) { // P2.4
	all := kinds(t)
	for i, a := range all {
		for k, b := range all {
			if is := tree.Same(a, b); is != (i == k) || is != (a.Text() == b.Text()) {
				t.Errorf("Same of %q and %q = %v", a.Text(), b.Text(), is)
			}
		}
	}
}

func TestThereAndBack(t *testing.T) { // P2.4
	for _, x := range kinds(t) {
		was := x.Copy()
		if e, f := x.Add("c"), x.Remove("c"); e != api.OK || f != api.OK || !tree.Same(x, was) || x.Text() != was.Text() {
			t.Errorf("added, and removed: %d, %d, %q, was %q", e, f, x.Text(), was.Text())
		}
		for _, name := range x.Names() {
			if e, f := x.Move(name, "c"), x.Move("c", name); e != api.OK || f != api.OK || !tree.Same(x, was) || x.Text() != was.Text() {
				t.Errorf("%s moved there and back: %d, %d, %q, was %q", name, e, f, x.Text(), was.Text())
			}
			l, _ := x.Get(name)
			if len(l) > 0 {
				continue
			}
			if e, f := x.Remove(name), x.Add(name); e != api.OK || f != api.OK || !tree.Same(x, was) {
				t.Errorf("%s removed, and added: %d, %d, %q, was %q", name, e, f, x.Text(), was.Text())
			}
		}
	}
}

// plain is a tree kept as a row of files that stands rising: what the chapter says, in another way.
type plain []file

func (p plain) find(name string) (int, bool) {
	return slices.BinarySearchFunc(p, name, func(f file, s string) int { return strings.Compare(f.name, s) })
}

func (p plain) without(at int) plain {
	return slices.Delete(slices.Clone(p), at, at+1)
}

func (p plain) with(f file) plain {
	at, _ := p.find(f.name)
	return slices.Insert(slices.Clone(p), at, f)
}

// step is one call on a tree, and the same on a plain one.
type step struct {
	name string
	real func(x *tree.Tree) api.Errno
	want func(p plain) (plain, api.Errno)
}

func add(name string) step {
	return step{"add " + name, func(x *tree.Tree) api.Errno { return x.Add(name) }, func(p plain) (plain, api.Errno) {
		if !tree.Named(name) {
			return p, api.ErrTreeName
		}
		if _, is := p.find(name); is {
			return p, api.ErrTreeTwice
		}
		return p.with(file{name, nil}), api.OK
	}}
}

func remove(name string) step {
	return step{"remove " + name, func(x *tree.Tree) api.Errno { return x.Remove(name) }, func(p plain) (plain, api.Errno) {
		at, is := p.find(name)
		if !is {
			return p, api.ErrTreeName
		}
		if len(p[at].lines) > 0 {
			return p, api.ErrTreeFull
		}
		return p.without(at), api.OK
	}}
}

func move(from, to string) step {
	return step{"move " + from + " " + to, func(x *tree.Tree) api.Errno { return x.Move(from, to) }, func(p plain) (plain, api.Errno) {
		at, is := p.find(from)
		if !is || !tree.Named(to) {
			return p, api.ErrTreeName
		}
		if _, is := p.find(to); is {
			return p, api.ErrTreeTwice
		}
		return p.without(at).with(file{to, p[at].lines}), api.OK
	}}
}

func put(name string, l ...string) step {
	return step{fmt.Sprintf("put %s %q", name, l), func(x *tree.Tree) api.Errno { return x.Put(name, l) }, func(p plain) (plain, api.Errno) {
		at, is := p.find(name)
		if !is {
			return p, api.ErrTreeName
		}
		if !line.All(l) {
			return p, api.ErrArg
		}
		return p.without(at).with(file{name, l}), api.OK
	}}
}

func steps() []step {
	var all []step
	for _, name := range []string{"a", "b", "A"} {
		all = append(all, add(name), remove(name), put(name), put(name, "x"), put(name, "\n"))
		for _, to := range []string{"a", "b", "A"} {
			all = append(all, move(name, to))
		}
	}
	return all
}

// through tries all rows of steps from a tree on, each on a copy of its own, so that copies are held against each other too.
func through(t *testing.T, x *tree.Tree, p plain, told string, left int) {
	for _, s := range steps() {
		c := x.Copy()
		q, want := s.want(p)
		told := told + s.name + "; "
		if e := s.real(c); e != want {
			t.Fatalf("%s: %d, want %d", told, e, want)
		}
		holds(t, told, c, q...)
		if same := x.Text() == c.Text(); tree.Same(x, c) != same || want != api.OK && !same {
			t.Fatalf("%s: Same, and the texts %q, %q", told, x.Text(), c.Text())
		}
		if left > 1 && want == api.OK {
			through(t, c, q, told, left-1)
		}
	}
	holds(t, told, x, p...)
}

func TestAllRowsOfCalls(t *testing.T) { // P2.1 to P2.4, R2
	through(t, tree.New(), nil, "", 5)
}
