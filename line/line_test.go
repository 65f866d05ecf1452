package line_test

import (
	"math"
	"slices"
	"strings"
	"testing"

	"quiltwork/api"
	"quiltwork/line"
)

// rows tells all rows of up to most of these lines, so that small cases are tried whole.
func rows(most int, of ...string) [][]string {
	all := [][]string{nil}
	for begin, n := 0, 0; n < most; n++ {
		stop := len(all)
		for ; begin < stop; begin++ {
			for _, s := range of {
				all = append(all, append(slices.Clone(all[begin]), s))
			}
		}
	}
	return all
}

func TestCut(t *testing.T) { // P1.1
	long := strings.Repeat("x", 1000)
	for _, x := range []struct {
		s    string
		want []string
	}{
		{"", nil},
		{"\n", []string{""}},
		{"\n\n", []string{"", ""}},
		{"a", []string{"a"}},
		{"a\n", []string{"a"}},
		{"a\nb", []string{"a", "b"}},
		{"a\nb\n", []string{"a", "b"}},
		{"a\n\nb", []string{"a", "", "b"}},
		{"a\n\n", []string{"a", ""}},
		{"\na", []string{"", "a"}},
		{" \n ", []string{" ", " "}},
		{"a\r\nb\r", []string{"a\r", "b\r"}},
		{"\x00\n\xff\xc3\n\u0085\u2028", []string{"\x00", "\xff\xc3", "\u0085\u2028"}},
		{long + "\n" + long, []string{long, long}},
	} {
		if l := line.Cut(x.s); !slices.Equal(l, x.want) {
			t.Errorf("Cut(%q) = %q, want %q", x.s, l, x.want)
		}
	}
}

func TestCutIsTheCallersOwn(t *testing.T) { // R6
	const s = "a\nb\nc"
	first := line.Cut(s)
	first[0] = "changed"
	_ = append(first[:1], "changed")
	if l := line.Cut(s); !slices.Equal(l, []string{"a", "b", "c"}) {
		t.Errorf("Cut after its answer was written into: %q", l)
	}
}

func TestText(t *testing.T) { // P1.1
	for _, x := range []struct {
		l    []string
		want string
	}{
		{nil, ""},
		{[]string{}, ""},
		{[]string{""}, "\n"},
		{[]string{"", ""}, "\n\n"},
		{[]string{"a"}, "a\n"},
		{[]string{"a", "", "b"}, "a\n\nb\n"},
		{[]string{"a\n", "b\nc"}, "a\n\nb\nc\n"},
		{[]string{"\xff"}, "\xff\n"},
	} {
		if s := line.Text(x.l); s != x.want {
			t.Errorf("Text(%q) = %q, want %q", x.l, s, x.want)
		}
	}
}

func TestRight(t *testing.T) { // P1.1
	full := strings.Repeat("x", api.MaxLine)
	for _, x := range []struct {
		s    string
		want bool
	}{
		{"", true},
		{"a", true},
		{" \t\r\x00\xff", true},
		{full[1:], true},
		{full, true},
		{full + "x", false},
		{strings.Repeat("é", api.MaxLine/2), true},
		{strings.Repeat("é", api.MaxLine/2) + "x", false}, // bytes are counted, not runes
		{"\n", false},
		{"a\n", false},
		{"\na", false},
		{"a\nb", false},
		{full[1:] + "\n", false},
	} {
		if is := line.Right(x.s); is != x.want {
			t.Errorf("Right(%q) = %v", x.s, is)
		}
	}
	for c := range 256 {
		if is := line.Right(string([]byte{byte(c)})); is != (c != 10) {
			t.Errorf("Right of the byte %d = %v", c, is)
		}
	}
}

func TestAll(t *testing.T) { // P1.1
	full := strings.Repeat("x", api.MaxLine)
	for _, x := range []struct {
		l    []string
		want bool
	}{
		{nil, true},
		{[]string{}, true},
		{[]string{""}, true},
		{[]string{"a", "", full}, true},
		{[]string{"a\nb"}, false},
		{[]string{"\n", "a", "b"}, false},
		{[]string{"a", "\n", "b"}, false},
		{[]string{"a", "b", "\n"}, false},
		{[]string{"a", full + "x"}, false},
	} {
		if is := line.All(x.l); is != x.want {
			t.Errorf("All(%q) = %v", x.l, is)
		}
	}
}

func TestSplice(t *testing.T) { // P1.2
	l := []string{"a", "b", "c"}
	for _, x := range []struct {
		l         []string
		at        int
		old, with []string
		want      []string
		is        bool
	}{
		{nil, 0, nil, nil, nil, true},
		{nil, 0, nil, []string{"x", "y"}, []string{"x", "y"}, true},
		{nil, 0, []string{"x"}, nil, nil, false},
		{nil, 0, []string{""}, nil, nil, false},
		{nil, 1, nil, nil, nil, false},
		{nil, -1, nil, nil, nil, false},
		{l, 0, nil, nil, l, true},
		{l, 0, nil, []string{"x"}, []string{"x", "a", "b", "c"}, true},
		{l, 2, []string{}, []string{"x"}, []string{"a", "b", "x", "c"}, true},
		{l, 3, nil, []string{"x", ""}, []string{"a", "b", "c", "x", ""}, true},
		{l, 0, []string{"a"}, nil, []string{"b", "c"}, true},
		{l, 1, []string{"b"}, []string{"x", "y"}, []string{"a", "x", "y", "c"}, true},
		{l, 2, []string{"c"}, []string{"z"}, []string{"a", "b", "z"}, true},
		{l, 1, []string{"b", "c"}, nil, []string{"a"}, true},
		{l, 0, l, nil, nil, true},
		{l, 0, l, l, l, true},
		{l, 1, []string{"a"}, nil, nil, false},
		{l, 0, []string{"a", "c"}, nil, nil, false},
		{l, 0, []string{"a", "b", "c", "d"}, nil, nil, false},
		{l, 1, l, nil, nil, false},
		{l, 3, []string{"c"}, nil, nil, false},
		{l, 3, []string{""}, nil, nil, false},
		{l, 4, nil, nil, nil, false},
		{l, 4, nil, []string{"x"}, nil, false},
		{l, -1, nil, []string{"x"}, nil, false},
		{l, -1, []string{"c"}, nil, nil, false},
		{l, math.MaxInt, nil, nil, nil, false},
		{l, math.MaxInt, l, nil, nil, false},
		{l, math.MinInt, nil, nil, nil, false},
		{l, math.MinInt, l, nil, nil, false},
		{[]string{"a\nb"}, 0, []string{"a\nb"}, []string{"c\n"}, []string{"c\n"}, true},
	} {
		got, is := line.Splice(x.l, x.at, x.old, x.with)
		if !slices.Equal(got, x.want) || is != x.is {
			t.Errorf("Splice(%q, %d, %q, %q) = %q, %v, want %q, %v", x.l, x.at, x.old, x.with, got, is, x.want, x.is)
		}
	}
}

// A row with room behind it is where a careless append would write.
func roomy(l ...string) []string {
	return append(make([]string, 0, len(l)+8), l...)
}

func TestSpliceLeavesWhatItIsGiven(t *testing.T) { // R5, R6
	for at := range 4 {
		for size := range 4 - at {
			for _, with := range [][]string{nil, roomy("x"), roomy("x", "y", "z")} {
				l := roomy("a", "b", "c")
				old := roomy(l[at : at+size]...)
				kept := slices.Clone(with)
				got, is := line.Splice(l, at, old, with)
				if !is {
					t.Fatalf("Splice at %d of %d lines: false", at, size)
				}
				got = got[:cap(got)]
				for i := range got {
					got[i] = "written"
				}
				if all := l[:cap(l)]; !slices.Equal(all, []string{"a", "b", "c", "", "", "", "", "", "", "", ""}) {
					t.Errorf("Splice at %d of %d lines: the row is %q", at, size, all)
				}
				if !slices.Equal(with, kept) || !slices.Equal(old, l[at:at+size]) {
					t.Errorf("Splice at %d of %d lines: old is %q, with is %q", at, size, old, with)
				}
			}
		}
	}
}

func TestSpliceKeepsNothingHandedIn(t *testing.T) { // R6
	l, with := roomy("a", "b", "c"), roomy("x")
	got, _ := line.Splice(l, 1, []string{"b"}, with)
	l[0], l[2], with[0] = "later", "later", "later"
	if !slices.Equal(got, []string{"a", "x", "c"}) {
		t.Errorf("what was spliced is %q", got)
	}
	same, _ := line.Splice(with, 0, nil, nil)
	with[0] = "later still"
	if !slices.Equal(same, []string{"later"}) {
		t.Errorf("what was spliced without a change is %q", same)
	}
}

func TestFind(t *testing.T) { // P1.2
	l := []string{"a", "b", "a", "b"}
	for _, x := range []struct {
		l, part    []string
		from, want int
	}{
		{l, []string{"a"}, 0, 0},
		{l, []string{"a"}, 1, 2},
		{l, []string{"a"}, 2, 2},
		{l, []string{"a"}, 3, -1},
		{l, []string{"b"}, 3, 3},
		{l, []string{"b"}, 4, -1},
		{l, []string{"a", "b"}, 1, 2},
		{l, []string{"b", "a"}, 0, 1},
		{l, []string{"b", "b"}, 0, -1},
		{l, []string{"b", ""}, 0, -1},
		{l, l, 0, 0},
		{l, l, 1, -1},
		{l, []string{"a", "b", "a", "b", "a"}, 0, -1},
		{l, []string{"ab"}, 0, -1},
		{l, []string{"b"}, -1, 1},
		{l, []string{"a"}, math.MinInt, 0},
		{l, []string{"a"}, math.MaxInt, -1},
		{l, nil, 0, 0},
		{l, []string{}, 2, 2},
		{l, nil, 4, 4},
		{l, nil, 5, -1},
		{l, nil, -3, 0},
		{l, nil, math.MinInt, 0},
		{l, nil, math.MaxInt, -1},
		{nil, nil, 0, 0},
		{nil, nil, -1, 0},
		{nil, nil, 1, -1},
		{nil, []string{"a"}, 0, -1},
		{nil, []string{""}, 0, -1},
		{[]string{"a", ""}, []string{""}, 0, 1},
		{[]string{"a", "a", "b"}, []string{"a", "b"}, 0, 1}, // a start that fails overlaps the one that holds
	} {
		if n := line.Find(x.l, x.part, x.from); n != x.want {
			t.Errorf("Find(%q, %q, %d) = %d, want %d", x.l, x.part, x.from, n, x.want)
		}
	}
}

func TestFindIsTheFirstPlaceThatSplices(t *testing.T) { // P1.2
	for _, l := range rows(4, "a", "") {
		for _, part := range rows(3, "a", "") {
			for from := -1; from <= 5; from++ {
				want := -1
				for at := max(from, 0); at <= 6; at++ {
					if _, is := line.Splice(l, at, part, nil); is {
						want = at
						break
					}
				}
				if n := line.Find(l, part, from); n != want {
					t.Errorf("Find(%q, %q, %d) = %d, want %d", l, part, from, n, want)
				}
			}
		}
	}
}

func TestHeadTail(t *testing.T) { // P1.3
	l := []string{"a", "b", "a", "b"}
	for _, x := range []struct {
		a, b       []string
		head, tail int
	}{
		{nil, nil, 0, 0},
		{nil, []string{}, 0, 0},
		{nil, l, 0, 0},
		{[]string{""}, []string{""}, 1, 1},
		{[]string{""}, nil, 0, 0},
		{l, l, 4, 4},
		{l, l[:2], 2, 2},
		{l, l[:3], 3, 0},
		{l, l[1:], 0, 3},
		{l, []string{"a", "x", "b"}, 1, 1},
		{l, []string{"a", "b", "x", "b"}, 2, 1},
		{l, []string{"x", "b", "a", "x"}, 0, 0},
		{[]string{"a", "a"}, []string{"a", "a", "a"}, 2, 2},
		{[]string{"a"}, []string{"A"}, 0, 0},
		{[]string{"a"}, []string{"a "}, 0, 0},
	} {
		if n := line.Head(x.a, x.b); n != x.head {
			t.Errorf("Head(%q, %q) = %d, want %d", x.a, x.b, n, x.head)
		}
		if n := line.Head(x.b, x.a); n != x.head {
			t.Errorf("Head(%q, %q) = %d, want %d", x.b, x.a, n, x.head)
		}
		if n := line.Tail(x.a, x.b); n != x.tail {
			t.Errorf("Tail(%q, %q) = %d, want %d", x.a, x.b, n, x.tail)
		}
		if n := line.Tail(x.b, x.a); n != x.tail {
			t.Errorf("Tail(%q, %q) = %d, want %d", x.b, x.a, n, x.tail)
		}
	}
}

func TestSame(t *testing.T) { // P1.3
	for _, x := range []struct {
		a, b []string
		want bool
	}{
		{nil, nil, true},
		{nil, []string{}, true},
		{[]string{}, []string{}, true},
		{nil, []string{""}, false},
		{[]string{"a"}, []string{"a"}, true},
		{[]string{"a"}, []string{"b"}, false},
		{[]string{"a", "b"}, []string{"a"}, false},
		{[]string{"a"}, []string{"a", "b"}, false},
		{[]string{"a", "b"}, []string{"b", "a"}, false},
		{[]string{"a", "b"}, []string{"ab"}, false},
		{[]string{"a\nb"}, []string{"a", "b"}, false},
		{[]string{"a", "", "b"}, []string{"a", "", "b"}, true},
		{[]string{"\xff"}, []string{"\xfe"}, false}, // bytes are held against each other, not runes
		{[]string{"\xff"}, []string{"\xff"}, true},
	} {
		if is := line.Same(x.a, x.b); is != x.want {
			t.Errorf("Same(%q, %q) = %v", x.a, x.b, is)
		}
	}
}

func TestSameIsAlikeThroughout(t *testing.T) { // P1.3
	all := rows(3, "a", "")
	for i, a := range all {
		for k, b := range all {
			n := len(a)
			whole := n == len(b) && line.Head(a, b) == n && line.Tail(a, b) == n
			if is := line.Same(a, b); is != whole || is != (i == k) {
				t.Errorf("Same(%q, %q) = %v", a, b, is)
			}
		}
	}
}

func TestCutOfText(t *testing.T) { // P1.4
	full := strings.Repeat("x", api.MaxLine)
	for _, l := range rows(4, "", "a", "\r", full) {
		if !line.All(l) {
			t.Fatalf("All(%q) = false", l)
		}
		if got := line.Cut(line.Text(l)); !slices.Equal(got, l) {
			t.Errorf("Cut(Text(%q)) = %q", l, got)
		}
	}
}

func TestTextOfCut(t *testing.T) { // P1.1
	for _, l := range rows(5, "a", "\n") {
		s := strings.Join(l, "")
		want := s
		if s != "" && !strings.HasSuffix(s, "\n") {
			want += "\n"
		}
		if got := line.Text(line.Cut(s)); got != want {
			t.Errorf("Text(Cut(%q)) = %q", s, got)
		}
	}
}

func TestSplicedBack(t *testing.T) { // P1.4
	for _, l := range rows(3, "a", "") {
		for at := 0; at <= len(l); at++ {
			for to := at; to <= len(l); to++ {
				for _, with := range rows(2, "a", "x") {
					old := l[at:to]
					there, is := line.Splice(l, at, old, with)
					if !is || len(there) != len(l)-len(old)+len(with) {
						t.Fatalf("Splice(%q, %d, %q, %q) = %q, %v", l, at, old, with, there, is)
					}
					back, is := line.Splice(there, at, with, old)
					if !is || !slices.Equal(back, l) {
						t.Errorf("Splice(%q, %d, %q, %q) = %q, %v, want %q", there, at, with, old, back, is, l)
					}
				}
			}
		}
	}
}
