package diff_test

import (
	"cmp"
	"fmt"
	"slices"
	"strings"
	"testing"

	"quiltwork/api"
	"quiltwork/diff"
	"quiltwork/prim"
	"quiltwork/seq"
	"quiltwork/swap"
	"quiltwork/tree"
)

// letters are the lines of a text that has one letter a line.
func letters(s string) []string {
	var l []string
	for i := range len(s) {
		l = append(l, s[i:i+1])
	}
	return l
}

// hunk is a hunk whose lines have one letter each.
func hunk(name string, at int, old, with string) prim.Prim {
	return prim.Prim{Kind: prim.Hunk, Name: name, At: at, Old: letters(old), New: letters(with)}
}

func add(name string) prim.Prim { return prim.Prim{Kind: prim.Add, Name: name} }

func rm(name string) prim.Prim { return prim.Prim{Kind: prim.Rm, Name: name} }

// row is a row of prims, to be written short.
func row(l ...prim.Prim) []prim.Prim { return l }

// same is a row of n lines that are the same.
func same(n int, s string) []string { return slices.Repeat([]string{s}, n) }

// counted is a row of n lines, no two of which are the same.
func counted(n int, head string) []string {
	var l []string
	for i := range n {
		l = append(l, fmt.Sprint(head, i))
	}
	return l
}

// alike tells whether both rows have the same in all fields, without a call of the program.
func alike(a, b []prim.Prim) bool {
	return slices.EqualFunc(a, b, func(p, q prim.Prim) bool {
		return p.Kind == q.Kind && p.Name == q.Name && p.To == q.To && p.At == q.At && slices.Equal(p.Old, q.Old) && slices.Equal(p.New, q.New)
	})
}

// copied is a row that shares nothing with l, without a call of the program.
func copied(l []prim.Prim) []prim.Prim {
	var out []prim.Prim
	for _, p := range l {
		p.Old = append([]string{}, p.Old...)
		p.New = append([]string{}, p.New...)
		out = append(out, p)
	}
	return out
}

// files is a tree in another way: what trees are built of, with one letter a line.
type files map[string]string

// of builds a tree of these files.
func of(t testing.TB, f files) *tree.Tree {
	t.Helper()
	x := tree.New()
	for name, s := range f {
		put(t, x, name, letters(s))
	}
	return x
}

// put has a file with these lines come.
func put(t testing.TB, x *tree.Tree, name string, l []string) {
	t.Helper()
	if x.Add(name) != api.OK || x.Put(name, l) != api.OK {
		t.Fatalf("no file %q of %d lines", name, len(l))
	}
}

// words are all texts of up to n of these letters.
func words(of string, n int) []string {
	all, last := []string{""}, []string{""}
	for range n {
		var longer []string
		for _, s := range last {
			for i := range len(of) {
				longer = append(longer, s+of[i:i+1])
			}
		}
		all, last = append(all, longer...), longer
	}
	return all
}

// dice picks numbers, always the same ones: each is made of the one ahead of it.
type dice uint64

func (d *dice) pick(n int) int {
	*d = *d*6364136223846793005 + 1442695040888963407
	return int(uint64(*d) >> 33 % uint64(n))
}

// lines are n lines of so many kinds.
func (d *dice) lines(n, kinds int) []string {
	var l []string
	for range n {
		l = append(l, fmt.Sprint("l", d.pick(kinds)))
	}
	return l
}

// edited is l with some lines gone, others come, and others changed.
func (d *dice) edited(l []string, kinds int) []string {
	var out []string
	for _, s := range l {
		switch d.pick(8) {
		case 0:
		case 1:
			out = append(out, fmt.Sprint("l", d.pick(kinds)), s)
		case 2:
			out = append(out, fmt.Sprint("l", d.pick(kinds)))
		default:
			out = append(out, s)
		}
	}
	return out
}

func TestCommon(t *testing.T) { // P6.1
	for _, w := range []struct {
		a, b string
		want []diff.Pair
	}{
		{"", "", nil},
		{"", "x", nil},
		{"x", "", nil},
		{"", "xyz", nil},
		{"x", "x", []diff.Pair{{0, 0}}},
		{"x", "y", nil},
		{"xyz", "xyz", []diff.Pair{{0, 0}, {1, 1}, {2, 2}}},
		{"xyz", "pqr", nil},
		{"xyz", "xqz", []diff.Pair{{0, 0}, {2, 2}}},
		{"xyz", "y", []diff.Pair{{1, 0}}},
		{"y", "xyz", []diff.Pair{{0, 1}}},
		{"pxqyrz", "xyz", []diff.Pair{{1, 0}, {3, 1}, {5, 2}}},
		{"xyz", "pxqyrz", []diff.Pair{{0, 1}, {1, 3}, {2, 5}}},
		// Lines that stand several times: the least places, of a first.
		{"x", "xxx", []diff.Pair{{0, 0}}},
		{"xxx", "x", []diff.Pair{{0, 0}}},
		{"xx", "xxxx", []diff.Pair{{0, 0}, {1, 1}}},
		{"xxxx", "xx", []diff.Pair{{0, 0}, {1, 1}}},
		{"xyx", "xx", []diff.Pair{{0, 0}, {2, 1}}},
		{"xx", "xyx", []diff.Pair{{0, 0}, {1, 2}}},
		{"xxy", "xy", []diff.Pair{{0, 0}, {2, 1}}},
		{"xy", "xxy", []diff.Pair{{0, 0}, {1, 2}}},
		{"xyy", "xy", []diff.Pair{{0, 0}, {1, 1}}},
		{"xy", "xyy", []diff.Pair{{0, 0}, {1, 1}}},
		// The place of a goes ahead of the place of b.
		{"xy", "yx", []diff.Pair{{0, 1}}},
		{"yx", "xy", []diff.Pair{{0, 1}}},
		{"xyz", "zyx", []diff.Pair{{0, 2}}},
		{"xyz", "zxy", []diff.Pair{{0, 1}, {1, 2}}},
		{"pxy", "yxp", []diff.Pair{{0, 2}}},
		// More pairs go ahead of lesser places.
		{"pxy", "xyp", []diff.Pair{{1, 0}, {2, 1}}},
		{"pqxyz", "xyzpq", []diff.Pair{{2, 0}, {3, 1}, {4, 2}}},
		{"xpq", "pqx", []diff.Pair{{1, 0}, {2, 1}}},
		// The first pair is the least one, though another has lesser places behind.
		{"xyxz", "yxzxyz", []diff.Pair{{0, 1}, {1, 4}, {3, 5}}},
		{"abab", "baba", []diff.Pair{{0, 1}, {1, 2}, {2, 3}}},
		{"abcabba", "cbabac", []diff.Pair{{1, 1}, {3, 2}, {4, 3}, {6, 4}}},
	} {
		a, b := letters(w.a), letters(w.b)
		if got := diff.Common(a, b); !slices.Equal(got, w.want) {
			t.Errorf("Common(%s, %s) = %v, want %v", w.a, w.b, got, w.want)
		}
		if !slices.Equal(a, letters(w.a)) || !slices.Equal(b, letters(w.b)) { // R5
			t.Errorf("Common(%s, %s) changes them to %s, %s", w.a, w.b, a, b)
		}
	}
}

func TestCommonOfAnyLines(t *testing.T) { // P6.1, R3: texts are held against each other byte by byte
	odd := []string{"", " ", "x", "X", "x ", "\n", "x\n", "\x00", "\xff", "\xfe", "é", "e\u0301", strings.Repeat("x", 61), strings.Repeat("x", 62)}
	for i, s := range odd {
		for k, u := range odd {
			got := diff.Common([]string{s}, []string{u})
			if len(got) != len(diff.Common([]string{u}, []string{s})) || (len(got) == 1) != (i == k) {
				t.Errorf("Common(%q, %q) = %v", s, u, got)
			}
		}
	}
	if got := diff.Common(odd, odd); len(got) != len(odd) {
		t.Errorf("Common(%q, the same) = %v", odd, got)
	}
	if len(diff.Common(nil, []string{})) != 0 || len(diff.Common([]string{}, nil)) != 0 || len(diff.Common(nil, []string{""})) != 0 {
		t.Error("Common of nothing")
	}
}

// better tells whether p goes ahead of q: it has more pairs, or else lesser places, pair by pair.
func better(p, q []diff.Pair) bool {
	if len(p) != len(q) {
		return len(p) > len(q)
	}
	return slices.CompareFunc(p, q, func(x, y diff.Pair) int {
		return cmp.Or(cmp.Compare(x.A, y.A), cmp.Compare(x.B, y.B))
	}) < 0
}

// byAll tells what Common tells by the chapter's words: of all rows of pairs that there are.
func byAll(a, b []string) []diff.Pair {
	var best []diff.Pair
	var look func(row []diff.Pair, i, j int)
	look = func(row []diff.Pair, i, j int) {
		if better(row, best) {
			best = slices.Clone(row)
		}
		for x := i; x < len(a); x++ {
			for y := j; y < len(b); y++ {
				if a[x] == b[y] {
					look(append(row[:len(row):len(row)], diff.Pair{A: x, B: y}), x+1, y+1)
				}
			}
		}
	}
	look(nil, 0, 0)
	return best
}

// ofTwoAndThree calls f with all pairs of rows of two kinds of lines, and of three, that are short.
func ofTwoAndThree(f func(a, b string)) {
	for _, w := range []struct {
		of string
		n  int
	}{{"xy", 5}, {"xyz", 3}} {
		for _, a := range words(w.of, w.n) {
			for _, b := range words(w.of, w.n) {
				f(a, b)
			}
		}
	}
}

func TestCommonByAllRowsOfPairs(t *testing.T) { // P6.1
	ofTwoAndThree(func(a, b string) {
		if got, want := diff.Common(letters(a), letters(b)), byAll(letters(a), letters(b)); !slices.Equal(got, want) {
			t.Errorf("Common(%s, %s) = %v, want %v", a, b, got, want)
		}
	})
	d := dice(1)
	for range 3000 {
		a, b := d.lines(d.pick(9), 4), d.lines(d.pick(9), 4)
		if got, want := diff.Common(a, b), byAll(a, b); !slices.Equal(got, want) {
			t.Errorf("Common(%s, %s) = %v, want %v", a, b, got, want)
		}
	}
}

// byParts tells what Common tells, for longer rows: the best one of what is left is one of three, each the best one of less.
func byParts(a, b []string) []diff.Pair {
	best := make([][][]diff.Pair, len(a)+1)
	for i := len(a); i >= 0; i-- {
		best[i] = make([][]diff.Pair, len(b)+1)
		for j := len(b); j >= 0; j-- {
			if i == len(a) || j == len(b) {
				continue
			}
			one := best[i+1][j]
			if better(best[i][j+1], one) {
				one = best[i][j+1]
			}
			if a[i] == b[j] {
				if both := append([]diff.Pair{{A: i, B: j}}, best[i+1][j+1]...); better(both, one) {
					one = both
				}
			}
			best[i][j] = one
		}
	}
	return best[0][0]
}

func TestCommonOfLongerRows(t *testing.T) { // P6.1
	d := dice(2)
	for range 300 {
		kinds := 1 + d.pick(12)
		a := d.lines(d.pick(40), kinds)
		for _, b := range [][]string{d.lines(d.pick(40), kinds), d.edited(a, kinds)} {
			if got, want := diff.Common(a, b), byParts(a, b); !slices.Equal(got, want) {
				t.Fatalf("Common(%s, %s) = %v, want %v", a, b, got, want)
			}
		}
	}
}

func TestCommonOfManyLines(t *testing.T) { // P6.1: 200 lines, and one more
	all := counted(201, "l")
	for _, n := range []int{199, 200} {
		for _, w := range []struct{ a, b []string }{
			{all[:n], all[:n]},
			{same(n, "x"), same(n, "x")},
		} {
			got := diff.Common(w.a, w.b)
			if len(got) != n {
				t.Fatalf("Common of the same %d lines: %d pairs", n, len(got))
			}
			for k, p := range got {
				if p != (diff.Pair{A: k, B: k}) {
					t.Fatalf("Common of the same %d lines: pair %d is %v", n, k, p)
				}
			}
		}
		last := []diff.Pair{{A: n - 1, B: 0}}
		if got := diff.Common(all[:n], all[n-1:n]); !slices.Equal(got, last) {
			t.Errorf("Common of %d lines and the last one = %v", n, got)
		}
		if got := diff.Common(all[n-1:n], all[:n]); !slices.Equal(got, []diff.Pair{{A: 0, B: n - 1}}) {
			t.Errorf("Common of the last one of %d lines and all = %v", n, got)
		}
	}
	half := slices.Concat(same(100, "y"), same(100, "x"))
	if got := diff.Common(same(200, "x"), half); len(got) != 100 || got[0] != (diff.Pair{A: 0, B: 100}) || got[99] != (diff.Pair{A: 99, B: 199}) {
		t.Errorf("Common of 200 lines, half of them = %v", got)
	}
	for _, n := range []int{201, 202, 400, 5000} {
		long := same(n, "x")
		for _, w := range []struct{ a, b []string }{
			{long, nil}, {nil, long}, {long, long}, {long, same(1, "x")}, {same(1, "x"), long}, {long, same(200, "x")}, {same(200, "x"), long}, {long, same(201, "x")},
		} {
			if got := diff.Common(w.a, w.b); len(got) != 0 {
				t.Errorf("Common of %d and %d lines: %d pairs", len(w.a), len(w.b), len(got))
			}
		}
	}
	if got := diff.Common(all, all); len(got) != 0 {
		t.Errorf("Common of 201 lines: %d pairs", len(got))
	}
}

func TestLines(t *testing.T) { // P6.2
	for _, w := range []struct {
		a, b string
		want []prim.Prim
	}{
		{"", "", nil},
		{"xyz", "xyz", nil},
		{"xyz", "xqz", row(hunk("f", 1, "y", "q"))},
		{"", "ab", row(hunk("f", 0, "", "ab"))},
		{"ab", "", row(hunk("f", 0, "ab", ""))},
		{"ab", "cd", row(hunk("f", 0, "ab", "cd"))},
		{"a", "bcd", row(hunk("f", 0, "a", "bcd"))},
		// Ahead of the first pair: of a, of b, of both.
		{"pqx", "x", row(hunk("f", 0, "pq", ""))},
		{"x", "pqx", row(hunk("f", 0, "", "pq"))},
		{"pqx", "rx", row(hunk("f", 0, "pq", "r"))},
		// Between two pairs.
		{"xpqy", "xy", row(hunk("f", 1, "pq", ""))},
		{"xy", "xpqy", row(hunk("f", 1, "", "pq"))},
		{"xpy", "xqry", row(hunk("f", 1, "p", "qr"))},
		// Behind the last one.
		{"xpq", "x", row(hunk("f", 1, "pq", ""))},
		{"x", "xpq", row(hunk("f", 1, "", "pq"))},
		{"xpq", "xr", row(hunk("f", 1, "pq", "r"))},
		// All three, and places that are those in b.
		{"pqxrys", "xryt", row(hunk("f", 0, "pq", ""), hunk("f", 3, "s", "t"))},
		{"xy", "pqxryst", row(hunk("f", 0, "", "pq"), hunk("f", 3, "", "r"), hunk("f", 5, "", "st"))},
		{"pqxryst", "xy", row(hunk("f", 0, "pq", ""), hunk("f", 1, "r", ""), hunk("f", 2, "st", ""))},
		{"pxqyr", "stuxyvwz", row(hunk("f", 0, "p", "stu"), hunk("f", 4, "q", ""), hunk("f", 5, "r", "vwz"))},
		{"abcdefg", "aXcdYYg", row(hunk("f", 1, "b", "X"), hunk("f", 4, "ef", "YY"))},
		// Lines that stand several times.
		{"aab", "ab", row(hunk("f", 1, "a", ""))},
		{"ab", "aab", row(hunk("f", 1, "", "a"))},
		{"ab", "ba", row(hunk("f", 0, "", "b"), hunk("f", 2, "b", ""))},
		{"xx", "xyx", row(hunk("f", 1, "", "y"))},
		{"xxx", "x", row(hunk("f", 1, "xx", ""))},
	} {
		a, b := letters(w.a), letters(w.b)
		if got := diff.Lines("f", a, b); !alike(got, w.want) {
			t.Errorf("Lines(%s, %s) = %v, want %v", w.a, w.b, got, w.want)
		}
		if !slices.Equal(a, letters(w.a)) || !slices.Equal(b, letters(w.b)) { // R5
			t.Errorf("Lines(%s, %s) changes them to %s, %s", w.a, w.b, a, b)
		}
	}
}

func TestLinesOfAnyNameAndLines(t *testing.T) { // P6.2: there are no errors of this layer
	for _, name := range []string{"f", "a/b-c_d.e", strings.Repeat("n", api.MaxName), "", "A", "a b", "\n", strings.Repeat("n", 99)} {
		if got := diff.Lines(name, letters("xyz"), letters("xq")); !alike(got, row(hunk(name, 1, "yz", "q"))) {
			t.Errorf("Lines(%q, xyz, xq) = %v", name, got)
		}
		if got := diff.Lines(name, letters("xyz"), letters("xyz")); len(got) != 0 {
			t.Errorf("Lines(%q, xyz, xyz) = %v", name, got)
		}
	}
	long := strings.Repeat("x", 99)
	want := row(prim.Prim{Kind: prim.Hunk, Name: "f", At: 1, Old: []string{"\n", long}, New: []string{""}})
	if got := diff.Lines("f", []string{"", "\n", long}, []string{"", ""}); !alike(got, want) {
		t.Errorf("Lines of odd lines = %v", got)
	}
	if len(diff.Lines("f", nil, []string{})) != 0 || len(diff.Lines("f", []string{}, nil)) != 0 {
		t.Error("Lines of nothing")
	}
}

// runs tells by the chapter's words what Lines tells: what lies ahead of the first pair, between two, and behind the last one.
func runs(name string, a, b []string, pairs []diff.Pair) []prim.Prim {
	var l []prim.Prim
	for k := range len(pairs) + 1 {
		x, y, toX, toY := 0, 0, len(a), len(b)
		if k > 0 {
			x, y = pairs[k-1].A+1, pairs[k-1].B+1
		}
		if k < len(pairs) {
			toX, toY = pairs[k].A, pairs[k].B
		}
		if x < toX || y < toY {
			l = append(l, prim.Prim{Kind: prim.Hunk, Name: name, At: y, Old: a[x:toX], New: b[y:toY]})
		}
	}
	return l
}

func TestLinesByRuns(t *testing.T) { // P6.2
	most := 0
	ofTwoAndThree(func(a, b string) {
		want := runs("f", letters(a), letters(b), byAll(letters(a), letters(b)))
		if got := diff.Lines("f", letters(a), letters(b)); !alike(got, want) {
			t.Errorf("Lines(%s, %s) = %v, want %v", a, b, got, want)
		}
		most = max(most, len(want))
	})
	d := dice(3)
	for range 300 {
		a := d.lines(d.pick(40), 12)
		for _, b := range [][]string{d.lines(d.pick(40), 12), d.edited(a, 12)} {
			want := runs("a/b", a, b, byParts(a, b))
			if got := diff.Lines("a/b", a, b); !alike(got, want) {
				t.Fatalf("Lines(%s, %s) = %v, want %v", a, b, got, want)
			}
			most = max(most, len(want))
		}
	}
	if most < 10 {
		t.Errorf("no more than %d hunks", most)
	}
}

func TestLinesOfMany(t *testing.T) { // P6.2: 200 lines, and one more
	all := counted(201, "l")
	for _, w := range []struct {
		a, b []string
		want []prim.Prim
	}{
		{all[:200], nil, row(prim.Prim{Name: "f", Old: all[:200]})},
		{nil, all[:200], row(prim.Prim{Name: "f", New: all[:200]})},
		{all[:200], all[1:], row(prim.Prim{Name: "f", Old: all[:1]}, prim.Prim{Name: "f", At: 199, New: all[200:]})},
		{all[:200], all[:200], nil},
		{all[:200], counted(200, "m"), row(prim.Prim{Name: "f", Old: all[:200], New: counted(200, "m")})},
		{all[:200], all[:199], row(prim.Prim{Name: "f", At: 199, Old: all[199:200]})},
		{all[1:], all[2:], row(prim.Prim{Name: "f", Old: all[1:2]})},
		{all, nil, nil},
		{nil, all, nil},
		{all, all, nil},
		{all, all[:200], nil},
		{all[:200], all, nil},
		{all, all[1:], nil},
		{all, []string{"x"}, nil},
		{[]string{"x"}, all, nil},
		{all, counted(201, "m"), nil},
		{same(5000, "x"), same(5000, "y"), nil},
	} {
		if got := diff.Lines("f", w.a, w.b); !alike(got, w.want) {
			t.Errorf("Lines of %d and %d lines: %d hunks, %v", len(w.a), len(w.b), len(got), got)
		}
	}
}

func TestTrees(t *testing.T) { // P6.3
	for _, w := range []struct {
		a, b files
		want []prim.Prim
	}{
		{nil, nil, nil},
		{files{"a": ""}, nil, row(rm("a"))},
		{nil, files{"a": ""}, row(add("a"))},
		{files{"a": "xy"}, nil, row(hunk("a", 0, "xy", ""), rm("a"))},
		{nil, files{"a": "xy"}, row(add("a"), hunk("a", 0, "", "xy"))},
		{files{"a": "xyz"}, files{"a": "xqz"}, row(hunk("a", 1, "y", "q"))},
		{files{"a": "xyz"}, files{"a": "xyz"}, nil},
		{files{"a": ""}, files{"a": ""}, nil},
		{files{"a": ""}, files{"a": "x"}, row(hunk("a", 0, "", "x"))},
		{files{"a": "x"}, files{"a": ""}, row(hunk("a", 0, "x", ""))},
		{files{"a": "x"}, files{"b": "x"}, row(hunk("a", 0, "x", ""), rm("a"), add("b"), hunk("b", 0, "", "x"))}, // no Move is told
		{files{"b": "x"}, files{"a": "x"}, row(hunk("b", 0, "x", ""), rm("b"), add("a"), hunk("a", 0, "", "x"))},
		{files{"b": "", "a": ""}, files{"d": "", "c": ""}, row(rm("a"), rm("b"), add("c"), add("d"))},
		// Each of the three kinds, rising, the one kind behind the other.
		{
			files{"a": "x", "d": "pq", "g": "", "b": "xyz", "e": "xyz", "h": "x"},
			files{"c": "x", "f": "", "i": "pq", "b": "xz", "e": "xyz", "h": "yxz"},
			row(
				hunk("a", 0, "x", ""), rm("a"), hunk("d", 0, "pq", ""), rm("d"), rm("g"),
				add("c"), hunk("c", 0, "", "x"), add("f"), add("i"), hunk("i", 0, "", "pq"),
				hunk("b", 1, "y", ""), hunk("h", 0, "", "y"), hunk("h", 2, "", "z"),
			),
		},
		{
			files{"z": "x", "y": "x", "m": "x"},
			files{"a": "x", "b": "x", "m": "y"},
			row(hunk("y", 0, "x", ""), rm("y"), hunk("z", 0, "x", ""), rm("z"), add("a"), hunk("a", 0, "", "x"), add("b"), hunk("b", 0, "", "x"), hunk("m", 0, "x", "y")),
		},
		// Rising is byte by byte.
		{files{"9": "", "10": "", "a/b": "", "a-b": "", "a": ""}, nil, row(rm("10"), rm("9"), rm("a"), rm("a-b"), rm("a/b"))},
		{nil, files{"9": "", "10": "", "a/b": "", "a-b": "", "a": ""}, row(add("10"), add("9"), add("a"), add("a-b"), add("a/b"))},
		{files{"9": "", "10": "", "a_": "", "a.": ""}, files{"9": "x", "10": "x", "a_": "x", "a.": "x"}, row(hunk("10", 0, "", "x"), hunk("9", 0, "", "x"), hunk("a.", 0, "", "x"), hunk("a_", 0, "", "x"))},
	} {
		a, b := of(t, w.a), of(t, w.b)
		for range 3 { // R7
			if got := diff.Trees(a, b); !alike(got, w.want) {
				t.Errorf("Trees(%v, %v) = %v, want %v", w.a, w.b, got, w.want)
			}
		}
		if !tree.Same(a, of(t, w.a)) || !tree.Same(b, of(t, w.b)) { // R5
			t.Errorf("Trees(%v, %v) changes them to %q, %q", w.a, w.b, a.Text(), b.Text())
		}
	}
}

func TestTreesThatAreNil(t *testing.T) { // P6.3
	some := files{"b": "xy", "a": "", "c": "x"}
	if got := diff.Trees(nil, nil); len(got) != 0 {
		t.Errorf("Trees(nil, nil) = %v", got)
	}
	for _, none := range []*tree.Tree{nil, tree.New()} {
		for _, w := range []struct{ got, want []prim.Prim }{
			{diff.Trees(none, of(t, some)), row(add("a"), add("b"), hunk("b", 0, "", "xy"), add("c"), hunk("c", 0, "", "x"))},
			{diff.Trees(of(t, some), none), row(rm("a"), hunk("b", 0, "xy", ""), rm("b"), hunk("c", 0, "x", ""), rm("c"))},
			{diff.Trees(none, nil), nil},
			{diff.Trees(nil, none), nil},
			{diff.Trees(none, none), nil},
			{diff.Trees(none, tree.New()), nil},
		} {
			if !alike(w.got, w.want) {
				t.Errorf("Trees of no tree = %v, want %v", w.got, w.want)
			}
		}
	}
}

func TestTreesWithMany(t *testing.T) { // P6.3: a file of 200 lines, and of one more
	small := files{"a": "x", "n": "", "z": "yz"}
	for _, name := range []string{"0", "a", "m", "n", "z", "zz"} {
		for _, n := range []int{200, 201, 500} {
			for _, l := range [][]string{counted(n, "l"), same(n, "x")} {
				long := of(t, small)
				if long.Add(name); long.Put(name, l) != api.OK {
					t.Fatalf("no file %q", name)
				}
				for _, other := range []*tree.Tree{nil, tree.New(), of(t, small), of(t, files{"q": ""}), of(t, files{name: "x"}), long, long.Copy()} {
					there, back := diff.Trees(other, long), diff.Trees(long, other)
					if n > 200 && len(there)+len(back) != 0 {
						t.Errorf("Trees with %q of %d lines: %d and %d prims", name, n, len(there), len(back))
					}
					if n > 200 {
						continue
					}
					if !makes(other, there, long) || !makes(long, back, other) {
						t.Errorf("Trees with %q of %d lines: %v, %v", name, n, there, back)
					}
				}
			}
		}
	}
	// Many files of 200 lines are not too many lines.
	x := tree.New()
	for _, name := range counted(10, "f") {
		put(t, x, name, counted(200, name))
	}
	if l := diff.Trees(nil, x); len(l) != 20 || diff.Cost(l) != 2000 || !makes(nil, l, x) {
		t.Errorf("Trees of 10 files of 200 lines: %d prims, %d lines", len(l), diff.Cost(l))
	}
}

// makes tells whether the row makes b of a, a tree that is nil being an empty one.
func makes(a *tree.Tree, l []prim.Prim, b *tree.Tree) bool {
	x, want := tree.New(), tree.New()
	if a != nil {
		x = a.Copy()
	}
	if b != nil {
		want = b
	}
	for _, p := range l {
		if prim.Apply(x, p) != api.OK {
			return false
		}
	}
	return tree.Same(x, want)
}

func TestCost(t *testing.T) { // P6.3
	for _, w := range []struct {
		l    []prim.Prim
		want int
	}{
		{nil, 0},
		{[]prim.Prim{}, 0},
		{row(add("a"), rm("b"), prim.Prim{Kind: prim.Move, Name: "a", To: "b"}), 0},
		{row(hunk("a", 0, "x", "")), 1},
		{row(hunk("a", 0, "", "xy")), 2},
		{row(hunk("a", 7, "xyz", "pq")), 5},
		{row(hunk("a", 0, "x", "x"), hunk("a", 0, "x", "x")), 4},
		{row(hunk("c", 0, "xy", ""), rm("c"), add("a"), hunk("a", 0, "", "x"), hunk("b", 1, "x", "y")), 5},
		{row(prim.Prim{}, prim.Prim{Kind: 9, Old: letters("x")}, prim.Prim{Kind: prim.Add, Name: "a", New: letters("yz")}), 3}, // of all, right or not
		{row(prim.Prim{Kind: prim.Hunk, Name: "a", At: -1, Old: same(300, "x"), New: same(400, "")}), 700},
	} {
		was := copied(w.l)
		if got := diff.Cost(w.l); got != w.want {
			t.Errorf("Cost(%v) = %d, want %d", w.l, got, w.want)
		}
		if !alike(w.l, was) {
			t.Errorf("Cost changes %v to %v", was, w.l)
		}
	}
}

// checkLines holds what Lines tells of a and b against what follows.
func checkLines(t *testing.T, a, b []string, common int) {
	t.Helper()
	x, y := tree.New(), tree.New()
	put(t, x, "f", a)
	put(t, y, "f", b)
	l := diff.Lines("f", a, b)
	if !seq.Right(l) || !makes(x, l, y) || !makes(y, seq.Invert(l), x) {
		t.Fatalf("Lines(%s, %s) = %v, which do not make the one of the other", a, b, l)
	}
	if n := diff.Cost(l); n != len(a)+len(b)-2*common || len(diff.Common(a, b)) != common {
		t.Fatalf("Lines(%s, %s) = %v, of %d lines, with %d in common", a, b, l, n, common)
	}
	if (len(l) == 0) != slices.Equal(a, b) {
		t.Fatalf("Lines(%s, %s) = %v", a, b, l)
	}
	checkSwaps(t, x, l, y)
}

// butPlaces tells whether both rows have the same prims, but for their places.
func butPlaces(a, b []prim.Prim) bool {
	a, b = copied(a), copied(b)
	for _, l := range [][]prim.Prim{a, b} {
		for k := range l {
			l[k].At = 0
		}
	}
	return alike(a, b)
}

// checkSwaps holds the hunks of one file against what is promised of them: they swap to such as they are.
func checkSwaps(t *testing.T, x *tree.Tree, l []prim.Prim, y *tree.Tree) {
	t.Helper()
	for k := range max(len(l)-1, 0) {
		first, second, is := swap.Swap(l[k], l[k+1])
		if !is || !butPlaces(row(first, second), row(l[k+1], l[k])) {
			t.Fatalf("%v, %v swap to %v, %v, %v", l[k], l[k+1], first, second, is)
		}
	}
	for k := range l { // each one can come first, behind any others that are left out
		ahead, behind, is := seq.Swap(l[:k], l[k:])
		if !is || !butPlaces(ahead, l[k:]) || !butPlaces(behind, l[:k]) || !makes(x, slices.Concat(ahead, behind), y) {
			t.Fatalf("%v, turned at %d, is %v, %v, %v", l, k, ahead, behind, is)
		}
	}
	for signs := range 1 << min(len(l), 5) {
		wanted := func(k int, p prim.Prim) bool { return signs>>k&1 == 1 }
		first, rest := seq.Split(l, wanted)
		many := 0
		for k := range l {
			many += signs >> k & 1
		}
		if len(first) != many || !makes(x, slices.Concat(first, rest), y) {
			t.Fatalf("%v, split by %b, is %v, %v", l, signs, first, rest)
		}
	}
}

func TestWhatFollowsOfLines(t *testing.T) { // P6.4
	ofTwoAndThree(func(a, b string) {
		if len(a)+len(b) < 10 { // the longest ones are told of elsewhere
			checkLines(t, letters(a), letters(b), len(byAll(letters(a), letters(b))))
		}
	})
	d := dice(4)
	for range 200 {
		a := d.lines(d.pick(40), 12)
		b := d.edited(a, 12)
		checkLines(t, a, b, len(byParts(a, b)))
	}
	a := d.lines(200, 30)
	b := d.edited(a, 30)
	b = b[:min(len(b), 200)]
	checkLines(t, a, b, len(diff.Common(a, b)))
}

// fewest tells how many lines must come and go, one by one, for each word of up to n letters to become of a.
func fewest(a, of string, n int) map[string]int {
	far := map[string]int{a: 0}
	for queue := []string{a}; len(queue) > 0; queue = queue[1:] {
		s := queue[0]
		var near []string
		for i := range len(s) + 1 {
			if i < len(s) {
				near = append(near, s[:i]+s[i+1:])
			}
			for k := range len(of) {
				near = append(near, s[:i]+of[k:k+1]+s[i:])
			}
		}
		for _, u := range near {
			if _, is := far[u]; !is && len(u) <= n {
				far[u] = far[s] + 1
				queue = append(queue, u)
			}
		}
	}
	return far
}

func TestNoFewerLinesCan(t *testing.T) { // P6.4
	for _, w := range []struct {
		of string
		n  int
	}{{"xy", 5}, {"xyz", 3}} {
		for _, a := range words(w.of, w.n) {
			far := fewest(a, w.of, w.n+1)
			for _, b := range words(w.of, w.n) {
				if n := diff.Cost(diff.Lines("f", letters(a), letters(b))); n != far[b] {
					t.Errorf("Lines(%s, %s) have %d lines, and %d can do", a, b, n, far[b])
				}
			}
		}
	}
}

// tree is a tree of some of five files; like is one that has much of it.
func (d *dice) tree(t testing.TB, like *tree.Tree) *tree.Tree {
	x := tree.New()
	for _, name := range []string{"a", "b", "c/d", "e", "f"} {
		l := d.lines(d.pick(12), 6)
		if like != nil {
			if old, is := like.Get(name); is && d.pick(4) > 0 {
				l = d.edited(old, 6)
			}
		}
		if d.pick(3) > 0 {
			put(t, x, name, l)
		}
	}
	return x
}

// byFiles tells by the chapter's words what Trees tells, with Lines.
func byFiles(a, b *tree.Tree) []prim.Prim {
	var l []prim.Prim
	for part := range 3 {
		for _, name := range []string{"a", "b", "c/d", "e", "f"} {
			old, isOld := a.Get(name)
			with, isNew := b.Get(name)
			switch {
			case part == 0 && isOld && !isNew:
				l = append(append(l, diff.Lines(name, old, nil)...), rm(name))
			case part == 1 && isNew && !isOld:
				l = append(append(l, add(name)), diff.Lines(name, nil, with)...)
			case part == 2 && isOld && isNew:
				l = append(l, diff.Lines(name, old, with)...)
			}
		}
	}
	return l
}

func TestWhatFollowsOfTrees(t *testing.T) { // P6.3, P6.4
	d := dice(5)
	for range 2000 {
		a := d.tree(t, nil)
		b := d.tree(t, a)
		l, back := diff.Trees(a, b), diff.Trees(b, a)
		if !alike(l, byFiles(a, b)) {
			t.Fatalf("Trees(%q, %q) = %v, want %v", a.Text(), b.Text(), l, byFiles(a, b))
		}
		if !seq.Right(l) || !makes(a, l, b) || !makes(b, back, a) || !makes(b, seq.Invert(l), a) || !makes(a, seq.Invert(back), b) {
			t.Fatalf("Trees(%q, %q) = %v, and back %v", a.Text(), b.Text(), l, back)
		}
		_, linesA := a.Many()
		_, linesB := b.Many()
		common := 0
		for _, name := range a.Names() {
			old, _ := a.Get(name)
			with, _ := b.Get(name)
			common += len(byParts(old, with))
		}
		if n := diff.Cost(l); n != linesA+linesB-2*common || n != diff.Cost(back) {
			t.Fatalf("Trees(%q, %q): %d lines, back %d, with %d in common", a.Text(), b.Text(), n, diff.Cost(back), common)
		}
		if len(diff.Trees(a, a)) != 0 || len(diff.Trees(a, a.Copy())) != 0 || (len(l) == 0) != tree.Same(a, b) {
			t.Fatalf("Trees of the same: %v, %v", diff.Trees(a, a), diff.Trees(a, a.Copy()))
		}
		for i, p := range l { // hunks of one file
			for _, q := range l[i+1:] {
				if p.Kind != prim.Hunk || q.Kind != prim.Hunk || p.Name != q.Name {
					continue
				}
				if first, second, is := swap.Swap(p, q); !is || !butPlaces(row(first, second), row(q, p)) {
					t.Fatalf("%v, %v swap to %v, %v, %v", p, q, first, second, is)
				}
			}
		}
	}
}

// roomy is a row of lines with room behind it, where a careless append would write.
func roomy(s string) []string {
	return append(make([]string, 0, len(s)+8), letters(s)...)
}

// spoil writes into all lines of the rows, and into their room.
func spoil(rows ...[]string) {
	for _, l := range rows {
		l = l[:cap(l)]
		for k := range l {
			l[k] = "written"
		}
	}
}

// roomIsWritten tells whether something was written behind the lines.
func roomIsWritten(l []string) bool {
	return slices.ContainsFunc(l[len(l):cap(l)], func(s string) bool { return s != "" })
}

// checkOwn holds a row that was told against R6: no two rows of lines share, and to write into it all changes nothing that is asked for.
func checkOwn(t *testing.T, l []prim.Prim, unchanged func() bool) {
	t.Helper()
	want := copied(l)
	for k := range l {
		spoil(l[k].Old)
		if !slices.Equal(l[k].New, want[k].New) || !alike(l[k+1:], want[k+1:]) {
			t.Fatalf("prim %d of %v shares its Old", k, want)
		}
		spoil(l[k].New)
		if !alike(l[k+1:], want[k+1:]) {
			t.Fatalf("prim %d of %v shares its New", k, want)
		}
	}
	room := l[:cap(l)]
	for k := range room {
		room[k] = prim.Prim{Kind: 9, Name: "written"}
	}
	if !unchanged() {
		t.Fatalf("%v, written into, changes what it was told of", want)
	}
}

func TestLinesOfTheirOwn(t *testing.T) { // R5, R6
	for _, w := range [][2]string{{"pqxrys", "xqyt"}, {"xy", "pxqyr"}, {"pxqyr", "xy"}, {"", "xyz"}, {"xyz", ""}, {"pq", "rs"}, {"xyz", "xyz"}} {
		a, b := roomy(w[0]), roomy(w[1])
		kept, pairs := diff.Lines("f", a, b), diff.Common(a, b)
		want, wantPairs := copied(kept), slices.Clone(pairs)
		unchanged := func() bool {
			return slices.Equal(a, letters(w[0])) && slices.Equal(b, letters(w[1])) && !roomIsWritten(a) && !roomIsWritten(b) &&
				alike(kept, want) && alike(diff.Lines("f", a, b), want) && slices.Equal(diff.Common(a, b), wantPairs)
		}
		checkOwn(t, diff.Lines("f", a, b), unchanged)
		told := diff.Common(a, b)
		for k := range told[:cap(told)] {
			told[:cap(told)][k] = diff.Pair{A: -1, B: -1}
		}
		if !unchanged() || !slices.Equal(pairs, wantPairs) {
			t.Fatalf("Common(%s), written into, changes another answer", w)
		}
		spoil(a, b)
		if !alike(kept, want) || !slices.Equal(pairs, wantPairs) {
			t.Fatalf("%s, written into, is told as %v, %v", w, kept, pairs)
		}
	}
}

func TestRowsThatShare(t *testing.T) { // R5: a and b are one row, or pieces of one
	all := letters("xyxzxyq")
	for from := range len(all) {
		for to := from; to <= len(all); to++ {
			a, b := all[:to], all[from:]
			want := diff.Lines("f", slices.Clone(a), slices.Clone(b))
			l := diff.Lines("f", a, b)
			if !alike(l, want) || !slices.Equal(diff.Common(a, b), diff.Common(slices.Clone(a), slices.Clone(b))) {
				t.Fatalf("Lines(%s, %s) = %v, want %v", a, b, l, want)
			}
			checkOwn(t, l, func() bool { return slices.Equal(all, letters("xyxzxyq")) })
		}
	}
}

func TestTreesOfTheirOwn(t *testing.T) { // R5, R6
	d := dice(6)
	for range 200 {
		a := d.tree(t, nil)
		b := d.tree(t, a)
		wasA, wasB := a.Text(), b.Text()
		kept := diff.Trees(a, b)
		want := copied(kept)
		checkOwn(t, diff.Trees(a, b), func() bool {
			return a.Text() == wasA && b.Text() == wasB && alike(kept, want) && alike(diff.Trees(a, b), want)
		})
		for _, x := range []*tree.Tree{a, b} {
			for _, name := range x.Names() {
				x.Put(name, nil)
				x.Remove(name)
			}
			put(t, x, "written", letters("xyz"))
		}
		if !alike(kept, want) {
			t.Fatalf("Trees(%q, %q), which were changed, is %v, not %v", wasA, wasB, kept, want)
		}
	}
}
