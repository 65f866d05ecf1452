package code_test

import (
	"math"
	"strings"
	"testing"

	"quiltwork/code"
	"quiltwork/named"
	"quiltwork/prim"
)

// row is a row of texts, to be written short.
func row(l ...string) []string { return l }

func hunk(name string, at int, old, with []string) prim.Prim {
	return prim.Prim{Kind: prim.Hunk, Name: name, At: at, Old: old, New: with}
}

// written are things and their bytes, as the chapter's words have them.
var written = []struct {
	x    any
	want string
}{
	{0, "0;"},
	{1, "1;"},
	{-1, "-1;"},
	{9, "9;"},
	{10, "10;"},
	{-7, "-7;"},
	{-100, "-100;"},
	{code.Far, "1099511627776;"},
	{-code.Far, "-1099511627776;"},
	{code.Far - 1, "1099511627775;"},
	{1 - code.Far, "-1099511627775;"},
	{code.Far + 1, "1099511627776;"}, // beyond Far: as that one
	{-code.Far - 1, "-1099511627776;"},
	{math.MaxInt, "1099511627776;"},
	{math.MinInt, "-1099511627776;"},

	{true, "1;"},
	{false, "0;"},

	{"", "0:,"},
	{"ab", "2:ab,"},
	{"012345678", "9:012345678,"},
	{"0123456789", "10:0123456789,"},
	{":", "1::,"},
	{";", "1:;,"},
	{",", "1:,,"},
	{"2:,;1:a,", "8:2:,;1:a,,"},
	{"a\nb\x00", "4:a\nb\x00,"}, // whatever bytes these are
	{"\x80\xff", "2:\x80\xff,"},
	{"\u00e9\u65e5", "5:\xc3\xa9\xe6\x97\xa5,"}, // bytes are counted

	{[]string(nil), "0;"},
	{[]string{}, "0;"},
	{row(""), "1;0:,"},
	{row("", ""), "2;0:,0:,"},
	{row("a,", "bc"), "2;2:a,,2:bc,"},
	{row("b", "a", "b"), "3;1:b,1:a,1:b,"}, // in their order
	{row(strings.Split("0 1 2 3 4 5 6 7 8 9", " ")...), "10;1:0,1:1,1:2,1:3,1:4,1:5,1:6,1:7,1:8,1:9,"},

	{prim.Prim{Kind: prim.Add, Name: "b"}, "1;1:b,0:,0;0;0;"},
	{prim.Prim{Kind: prim.Rm, Name: "a/b"}, "2;3:a/b,0:,0;0;0;"},
	{prim.Prim{Kind: prim.Move, Name: "b", To: "ab"}, "3;1:b,2:ab,0;0;0;"},
	{hunk("a", 3, row("x"), row("", "y")), "0;1:a,0:,3;1;1:x,2;0:,1:y,"},
	{hunk("a", 0, nil, row("x")), "0;1:a,0:,0;0;1;1:x,"},
	{hunk("a", prim.Far, row("x"), []string{}), "0;1:a,0:,1048576;1;1:x,0;"},
	{prim.Prim{}, "0;0:,0:,0;0;0;"}, // right or not
	{prim.Prim{Kind: -2, Name: "A", To: "\n", At: -1, Old: row("p"), New: row("p")}, "-2;1:A,1:\n,-1;1;1:p,1;1:p,"},
	{prim.Prim{Kind: math.MaxInt, At: math.MinInt}, "1099511627776;0:,0:,-1099511627776;0;0;"},

	{[]prim.Prim(nil), "0;"},
	{[]prim.Prim{}, "0;"},
	{[]prim.Prim{{}}, "1;0;0:,0:,0;0;0;"},
	{[]prim.Prim{{Kind: prim.Rm, Name: "b"}, {Kind: prim.Add, Name: "a"}}, "2;2;1:b,0:,0;0;0;1;1:a,0:,0;0;0;"},

	{named.Patch{Id: 7, Note: "n", Deps: []int{2, 5}, L: []prim.Prim{{Kind: prim.Add, Name: "b"}}}, "7;1:n,2;2;5;1;1;1:b,0:,0;0;0;"},
	{named.Patch{Id: 1, L: []prim.Prim{{Kind: prim.Add, Name: "b"}, hunk("b", 0, nil, row("z"))}}, "1;0:,0;2;1;1:b,0:,0;0;0;0;1:b,0:,0;0;1;1:z,"},
	{named.Patch{}, "0;0:,0;0;"}, // right or not
	{named.Patch{Id: -3, Note: "\n", Deps: []int{9, 9, -1, math.MaxInt}, L: []prim.Prim{}}, "-3;1:\n,4;9;9;-1;1099511627776;0;"},
	{named.Patch{Id: math.MinInt}, "-1099511627776;0:,0;0;"},
}

func TestFar(t *testing.T) { // the constant that the chapter lists
	if code.Far != 1099511627776 {
		t.Errorf("Far is %d", code.Far)
	}
}

func TestZeroOut(t *testing.T) { // P9.1
	var o code.Out
	if b := o.Bytes(); len(b) != 0 {
		t.Errorf("the bytes of a zero Out are %q", b)
	}
	if b := new(code.Out).Bytes(); len(b) != 0 {
		t.Errorf("the bytes of a new Out are %q", b)
	}
}

func TestWritten(t *testing.T) { // P9.1
	for _, w := range written {
		var o code.Out
		write(&o, w.x)
		if b := string(o.Bytes()); b != w.want {
			t.Errorf("%#v is written %q, want %q", w.x, b, w.want)
		}
		if b := bytesOf(w.x); b != w.want { // the tests' own way of writing holds, too
			t.Errorf("%#v is %q by the rule, want %q", w.x, b, w.want)
		}
	}
}

func TestWrittenOneBehindTheOther(t *testing.T) { // P9.1
	var all code.Out
	want := ""
	for _, v := range written {
		for _, w := range written {
			var o code.Out
			write(&o, v.x)
			write(&o, w.x)
			if b := string(o.Bytes()); b != v.want+w.want {
				t.Errorf("%#v, %#v are written %q, want %q", v.x, w.x, b, v.want+w.want)
			}
		}
		write(&all, v.x)
		want += v.want
		if b := string(all.Bytes()); b != want {
			t.Fatalf("behind others %#v is written %q, want %q", v.x, b, want)
		}
	}
}

func TestExampleOfTheChapter(t *testing.T) { // P9.1
	var o code.Out
	o.Num(-7)
	o.Text("ab")
	if b := string(o.Bytes()); b != "-7;2:ab," {
		t.Errorf("-7 and ab are written %q", b)
	}
}

func TestMuchIsWritten(t *testing.T) { // P9.1, P9.2
	const many = 1 << 16
	var o code.Out
	var want strings.Builder
	for n := range many {
		o.Num(n)
		o.Text("x")
		want.WriteString(bytesOf(n) + "1:x,")
	}
	long := strings.Repeat("0123456789", many)
	l := make([]string, many)
	o.Text(long)
	o.Texts(l)
	want.WriteString(bytesOf(long) + bytesOf(l))
	b := o.Bytes()
	if string(b) != want.String() {
		t.Fatalf("of %d numbers and texts there are %d bytes, want %d", many, len(b), want.Len())
	}
	i := code.Of(b)
	for n := range many {
		if i.Num() != n || i.Text(1) != "x" {
			t.Fatalf("number %d is not read", n)
		}
	}
	if s := i.Text(len(long)); s != long {
		t.Errorf("of a text of %d bytes %d are read", len(long), len(s))
	}
	if got := i.Texts(many, 0); len(got) != many || !i.Done() {
		t.Errorf("of %d texts %d are read", many, len(got))
	}
}
