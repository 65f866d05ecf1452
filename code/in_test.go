package code_test

import (
	"math"
	"slices"
	"strings"
	"testing"

	"quiltwork/code"
	"quiltwork/named"
	"quiltwork/prim"
)

// tells holds that a call tells this of the bytes, and leaves those behind.
func tells(t testing.TB, c call, b, behind string, want any) {
	t.Helper()
	i := code.Of([]byte(b + behind))
	if x := c.read(i); bytesOf(x) != bytesOf(want) || i.Left() != len(behind) || i.Done() != (behind == "") {
		t.Errorf("%s of %q tells %#v and leaves %d, want %#v and %d; Done: %v", c.name, b+behind, x, i.Left(), want, len(behind), i.Done())
	}
}

// refuses holds that a call tells nothing of the bytes, and leaves all of them for ever.
func refuses(t testing.TB, c call, b string) {
	t.Helper()
	i := code.Of([]byte(b))
	if x := c.read(i); bytesOf(x) != bytesOf(c.none) {
		t.Errorf("%s of %q tells %#v", c.name, b, x)
	}
	stays(t, c, b, i, len(b))
}

func TestRead(t *testing.T) { // P9.2
	for _, behind := range []string{"", "x", "0;", ";", ",", "1:a,", "\xff"} {
		for _, x := range []struct {
			c    call
			b    string
			want any
		}{
			{num, "0;", 0},
			{num, "1;", 1},
			{num, "-1;", -1},
			{num, "10;", 10},
			{num, "1099511627776;", code.Far},
			{num, "-1099511627776;", -code.Far},
			{flag, "0;", false},
			{flag, "1;", true},
			{text(0), "0:,", ""},
			{text(2), "2:ab,", "ab"},
			{text(math.MaxInt), "2:ab,", "ab"},
			{text(3), "3:,;:,", ",;:"},
			{text(3), "3:\x80\n\xff,", "\x80\n\xff"},
			{text(10), "10:0123456789,", "0123456789"},
			{texts(0, 0), "0;", row()},
			{texts(9, -1), "0;", row()},
			{texts(1, 0), "1;0:,", row("")},
			{texts(2, 2), "2;2:a,,2:bc,", row("a,", "bc")},
			{texts(math.MaxInt, math.MaxInt), "2;2:a,,0:,", row("a,", "")},
			{one, "1;1:b,0:,0;0;0;", prim.Prim{Kind: prim.Add, Name: "b"}},
			{one, "2;1:b,0:,0;0;0;", prim.Prim{Kind: prim.Rm, Name: "b"}},
			{one, "3;1:b,1:a,0;0;0;", prim.Prim{Kind: prim.Move, Name: "b", To: "a"}},
			{one, "0;1:a,0:,3;1;1:x,2;0:,1:y,", hunk("a", 3, row("x"), row("", "y"))},
			{one, "0;1:a,0:,1048576;0;1;0:,", hunk("a", prim.Far, nil, row(""))},
			{prims(0), "0;", []prim.Prim{}},
			{prims(1), "1;1;1:b,0:,0;0;0;", []prim.Prim{{Kind: prim.Add, Name: "b"}}},
			{prims(math.MaxInt), "2;2;1:b,0:,0;0;0;1;1:a,0:,0;0;0;", []prim.Prim{{Kind: prim.Rm, Name: "b"}, {Kind: prim.Add, Name: "a"}}},
			{patch, "7;1:n,2;2;5;1;1;1:b,0:,0;0;0;", named.Patch{Id: 7, Note: "n", Deps: []int{2, 5}, L: []prim.Prim{{Kind: prim.Add, Name: "b"}}}},
			{patch, "1000000000;0:,0;1;2;1:b,0:,0;0;0;", named.Patch{Id: named.Far, L: []prim.Prim{{Kind: prim.Rm, Name: "b"}}}},
		} {
			tells(t, x.c, x.b, behind, x.want)
			if behind == "" && !reads(t, x.c, x.b) { // the tests' own way of reading holds, too
				t.Errorf("%s of %q: the rule tells nothing", x.c.name, x.b)
			}
		}
	}
}

func TestNothingStandsThere(t *testing.T) { // P9.2
	for _, c := range append(anyCalls(), limitedCalls()...) {
		refuses(t, c, "")
		i := code.Of(nil)
		if i.Left() != 0 || !i.Done() {
			t.Error("no bytes are not read at once")
		}
		c.read(i)
		stays(t, c, "", i, 0)
		i = &code.In{} // as of no bytes
		c.read(i)
		stays(t, c, "", i, 0)
	}
}

func TestNoNumbers(t *testing.T) { // P9.2
	zeros := strings.Repeat("0", 400)
	digits := []string{"", "-", "+", "--1", "-0", "+0", "+1", "00", "01", "-01", "007", "0-1", "1-", "1+", "1 ", " 1", "\n1", "1\n", "1_0", "0x1", "0b1", "1e3", "1.0", "1.", "a", "1a", "\xd9\xa1",
		"\xef\xbc\x91", "1:", "1,", "1099511627777", "-1099511627777", "9223372036854775807", "9223372036854775808", "-9223372036854775808", "-9223372036854775809", "18446744073709551616", "18446744073709551617",
		"4294967296000000000000", "-18446744073709551615", "1" + zeros, "-1" + zeros, zeros, zeros + "1"}
	for _, s := range digits {
		for _, behind := range []string{"", ";", ";1;", ":", ","} {
			refuses(t, num, s+behind)
			refuses(t, flag, s+behind)
			refuses(t, texts(math.MaxInt, math.MaxInt), s+behind)
			refuses(t, prims(math.MaxInt), s+behind)
		}
		b := "1;1:b,0:,0;0;0;"
		refuses(t, one, strings.Replace(b, "1", s, 1))
		refuses(t, one, "1;1:b,0:,"+s+";0;0;")
		refuses(t, patch, s+";1:n,0;1;"+b)
		refuses(t, patch, "7;1:n,"+s+";1;"+b)
		refuses(t, patch, "7;1:n,1;"+s+";1;"+b)
		refuses(t, patch, "7;1:n,0;"+s+";"+b)
	}
	for _, b := range []string{"0", "1", "12", "1:;", "1,;", "2:ab,"} { // digits, and another byte behind, or none
		refuses(t, num, b)
		refuses(t, flag, b)
	}
}

func TestNoFlags(t *testing.T) { // P9.2
	for _, b := range []string{"2;", "-1;", "10;", "01;", "00;", "-0;", "1099511627776;", "true;", "1:1,", ";"} {
		refuses(t, flag, b)
	}
}

func TestNoTexts(t *testing.T) { // P9.2
	for _, b := range []string{
		"2:ab", "2:abc,", "2:a,", "2:,", "2:", "2", "1:,", "0:", "0:a,", "0:;", "0;,", ":,", ":", "a:a,", "2;ab,", "2:ab;", "2,ab,",
		"-1:,", "-1:a,", "-2:ab,", "-0:,", "+1:a,", "01:a,", "00:,", " 1:a,", "1 :a,", "0x1:a,", "1_0:0123456789,",
		"3:ab,", "4:ab,c", "1099511627776:a,", "9223372036854775807:a,", "9223372036854775808:a,", "18446744073709551617:a,", "18446744073709551616:,", "4294967297:a,", "-9223372036854775808:a,",
		strings.Repeat("9", 500) + ":a,", strings.Repeat("0", 500) + "1:a,",
	} {
		refuses(t, text(math.MaxInt), b)
		refuses(t, text(9), b)
		refuses(t, texts(9, math.MaxInt), "1;"+b)
		refuses(t, texts(9, 9), "2;1:x,"+b)
	}
}

func TestMostBytesOfAText(t *testing.T) { // P9.2
	for n := range 130 {
		s := strings.Repeat("x", n)
		for _, most := range []int{math.MinInt, -1, 0, n - 1, n, n + 1, math.MaxInt} {
			if n <= most {
				tells(t, text(most), bytesOf(s), "0:,", s)
				tells(t, texts(1, most), bytesOf(row(s)), "0;", row(s))
				tells(t, texts(3, most), bytesOf(row("", s, "")), "0;", row("", s, ""))
			} else {
				refuses(t, text(most), bytesOf(s))
				refuses(t, texts(9, most), bytesOf(row(s)))
				refuses(t, texts(9, most), bytesOf(row("", s, "")))
			}
		}
	}
}

func TestMostOfARow(t *testing.T) { // P9.2
	add := prim.Prim{Kind: prim.Add, Name: "a"}
	for n := range 60 {
		l, p := slices.Repeat(row("x"), n), slices.Repeat([]prim.Prim{add}, n)
		for _, most := range []int{math.MinInt, -1, 0, n - 1, n, n + 1, math.MaxInt} {
			if n <= most {
				tells(t, texts(most, 1), bytesOf(l), "1:x,", l)
				tells(t, prims(most), bytesOf(p), bytesOf(add), p)
			} else {
				refuses(t, texts(most, 1), bytesOf(l))
				refuses(t, prims(most), bytesOf(p))
			}
		}
	}
}

func TestCountsOfRows(t *testing.T) { // P9.2
	b := "1;1:b,0:,0;0;0;"
	for _, count := range []int{-far, -2, -1, 2, 3, 100, 1 << 20, 1 << 31, 1 << 32, far} { // below 0, or more than there are
		refuses(t, texts(math.MaxInt, math.MaxInt), bytesOf(count)+"1:a,")
		refuses(t, prims(math.MaxInt), bytesOf(count)+b)
		refuses(t, one, "0;1:a,0:,0;"+bytesOf(count)+"1:x,1;1:y,")
		refuses(t, one, "0;1:a,0:,0;1;1:x,"+bytesOf(count)+"1:y,")
		refuses(t, patch, "7;1:n,"+bytesOf(count)+"2;1;"+b)
		refuses(t, patch, "7;1:n,0;"+bytesOf(count)+b)
	}
	for _, count := range []int{0, 1, far} { // of nothing behind
		refuses(t, texts(math.MinInt, math.MaxInt), bytesOf(count))
		refuses(t, prims(math.MinInt), bytesOf(count))
	}
}

func TestPrimsThatMayNotBe(t *testing.T) { // P9.2
	good := prim.Prim{Kind: prim.Add, Name: "a"}
	long := strings.Repeat("x", 61)
	for _, p := range []prim.Prim{
		{},
		{Kind: -1, Name: "a"},
		{Kind: 4, Name: "a"},
		{Kind: code.Far, Name: "a"},
		{Kind: prim.Add},
		{Kind: prim.Add, Name: "A"},
		{Kind: prim.Add, Name: strings.Repeat("n", 25)},
		{Kind: prim.Add, Name: "a", To: "b"},
		{Kind: prim.Rm, Name: "a", At: 1},
		{Kind: prim.Rm, Name: "a", Old: row("")},
		{Kind: prim.Move, Name: "a"},
		{Kind: prim.Move, Name: "a", To: "a"},
		{Kind: prim.Move, Name: "a", To: "b", New: row("x")},
		hunk("a", 0, nil, nil),
		hunk("a", 0, row("x"), row("x")),
		hunk("a", -1, nil, row("x")),
		hunk("a", prim.Far+1, nil, row("x")),
		hunk("a", 0, nil, row("\n")),
		hunk("a", 0, row("x", long), nil),
	} {
		b := bytesOf(p)
		refuses(t, one, b)
		refuses(t, prims(9), bytesOf([]prim.Prim{p}))
		refuses(t, prims(9), bytesOf([]prim.Prim{good, p, good}))
		refuses(t, patch, bytesOf(named.Patch{Id: 1, L: []prim.Prim{good, p}}))
	}
	tells(t, one, bytesOf(hunk("a", 0, nil, row(long[1:]))), "", hunk("a", 0, nil, row(long[1:])))
	many := hunk("a", 0, slices.Repeat(row("x"), 300), slices.Repeat(row(""), 301)) // how many lines there are is another layer's
	tells(t, one, bytesOf(many), "", many)
}

func TestPatchesThatMayNotBe(t *testing.T) { // P9.2
	l := []prim.Prim{{Kind: prim.Add, Name: "a"}}
	nine := []int{1, 2, 3, 4, 5, 6, 7, 8, 9}
	long := strings.Repeat("x", 61)
	for _, p := range []named.Patch{
		{},
		{Id: 0, L: l},
		{Id: -1, L: l},
		{Id: named.Far + 1, L: l},
		{Id: code.Far, L: l},
		{Id: 1},
		{Id: 1, L: slices.Repeat(l, 25)},
		{Id: 1, L: slices.Repeat(l, 1000)},
		{Id: 1, Note: "\n", L: l},
		{Id: 1, Note: long, L: l},
		{Id: 99, Deps: nine, L: l},
		{Id: 1, Deps: []int{1}, L: l},
		{Id: 9, Deps: []int{2, 2}, L: l},
		{Id: 9, Deps: []int{3, 2}, L: l},
		{Id: 9, Deps: []int{0}, L: l},
		{Id: 9, Deps: []int{-1}, L: l},
		{Id: 9, Deps: []int{named.Far + 1}, L: l},
	} {
		refuses(t, patch, bytesOf(p))
		refuses(t, patch, bytesOf(p)+bytesOf(named.Patch{Id: 1, L: l}))
	}
	for _, p := range []named.Patch{
		{Id: 1, L: slices.Repeat(l, 24)},
		{Id: 1, Note: long[1:], L: l},
		{Id: 99, Deps: nine[:8], L: l},
		{Id: 9, Deps: []int{1, named.Far}, L: l},
	} {
		tells(t, patch, bytesOf(p), bytesOf(p), p)
	}
}

func TestSpoiledStays(t *testing.T) { // P9.2: also ahead of bytes that another call could tell
	for _, x := range []struct {
		c call
		b string
	}{
		{num, "1:a,"},
		{num, ";1;"},
		{flag, "2;"},
		{text(9), "1;"},
		{text(0), "1:a,"},
		{texts(9, 0), "1;1:a,"},
		{texts(0, 9), "1;1:a,"},
		{texts(9, 9), "2;1:a,7;"},
		{one, "0;1:a,0:,0;0;0;"},
		{one, "4;1:a,0:,0;0;0;"},
		{prims(9), "2;1;1:a,0:,0;0;0;0;"},
		{prims(0), "1;1;1:a,0:,0;0;0;"},
		{patch, "1;0:,0;0;"},
		{patch, "0;0:,0;1;1;1:a,0:,0;0;0;"},
	} {
		for _, ahead := range []string{"", "5;", "5;5;5;"} {
			i := code.Of([]byte(ahead + x.b))
			for range len(ahead) / 2 {
				if i.Num() != 5 || i.Done() {
					t.Fatalf("%q: what is ahead is not read", ahead+x.b)
				}
			}
			x.c.read(i)
			stays(t, x.c, ahead+x.b, i, len(x.b))
			for _, c := range limitedCalls() {
				if got := c.read(i); bytesOf(got) != bytesOf(c.none) {
					t.Fatalf("%s tells %#v of an In that is spoiled", c.name, got)
				}
			}
			stays(t, x.c, ahead+x.b, i, len(x.b))
		}
	}
	i := code.Of([]byte("1;")) // all is read, and then it is spoiled
	if i.Done() || i.Num() != 1 || !i.Done() || i.Num() != 0 {
		t.Error("1; is not read, or there is more")
	}
	stays(t, num, "1;", i, 0)
}

func TestDoneAndLeft(t *testing.T) { // P9.2
	b := "-7;2:ab,1;0;"
	i := code.Of([]byte(b))
	for k, left := range []int{12, 9, 4, 2, 0} {
		for range 2 { // asking changes nothing
			if i.Left() != left || i.Done() != (left == 0) {
				t.Errorf("of %q, behind %d things, %d are left, want %d; Done: %v", b, k, i.Left(), left, i.Done())
			}
		}
		if k == 1 {
			i.Text(2)
		} else if left > 0 {
			i.Num()
		}
	}
}
