package code_test

import (
	"bytes"
	"slices"
	"testing"

	"quiltwork/code"
	"quiltwork/named"
	"quiltwork/prim"
)

// roomyLines is a row with room behind it, where a careless append would write.
func roomyLines(l ...string) []string {
	return append(make([]string, 0, len(l)+4), l...)
}

// roomyPatch is a patch that may be, with room behind all its rows.
func roomyPatch() named.Patch {
	l := append(make([]prim.Prim, 0, 6),
		prim.Prim{Kind: prim.Add, Name: "a", Old: roomyLines(), New: roomyLines()},
		hunk("a", 0, roomyLines("x", "y"), roomyLines("z")),
		hunk("b", 7, roomyLines(), roomyLines("p", "q")))
	return named.Patch{Id: 9, Note: "n", Deps: append(make([]int, 0, 8), 2, 5, 7), L: l}
}

// overwrite writes into a row, and into its room.
func overwrite[T any](l []T, with T) {
	l = l[:cap(l)]
	for k := range l {
		l[k] = with
	}
}

// spoil writes into all rows of a patch, and into their room.
func spoil(p named.Patch) {
	for _, q := range p.L[:cap(p.L)] {
		overwrite(q.Old, "written")
		overwrite(q.New, "written")
	}
	overwrite(p.Deps, -9)
	overwrite(p.L, prim.Prim{Kind: 9, Name: "written"})
}

// roomIsEmpty tells whether nothing was written behind a row.
func roomIsEmpty[T any](l []T, empty func(T) bool) bool {
	return !slices.ContainsFunc(l[len(l):cap(l)], func(x T) bool { return !empty(x) })
}

func noText(s string) bool { return s == "" }

func TestBytesIsACopy(t *testing.T) { // P9.1, R6
	var o code.Out
	want, kept := "", [][]byte(nil)
	for n := range 300 {
		o.Num(n)
		o.Text("abc")
		want += bytesOf(n) + "3:abc,"
		b := o.Bytes()
		overwrite(b, '!')
		b = append(o.Bytes(), '!')
		overwrite(b, '!')
		kept = append(kept, o.Bytes())
		if string(kept[n]) != want {
			t.Fatalf("the bytes are %q, want %q", kept[n], want)
		}
	}
	for _, b := range kept {
		if string(b) != want[:len(b)] {
			t.Fatalf("bytes that were told are %q behind more that was written, want %q", b, want[:len(b)])
		}
	}
}

func TestOfIsOfACopy(t *testing.T) { // P9.2, R5, R6
	p := roomyPatch()
	want := "-7;2:ab,2;1:x,1:y," + bytesOf(p) + bytesOf(p.L)
	b := append(make([]byte, 0, len(want)+40), want...)
	early, late, other := code.Of(b), code.Of(b), code.Of(b)
	read := func(i *code.In) bool {
		return i.Num() == -7 && i.Text(2) == "ab" && slices.Equal(i.Texts(2, 1), row("x", "y")) && bytesOf(i.Patch()) == bytesOf(p) && bytesOf(i.Prims(3)) == bytesOf(p.L) && i.Done()
	}
	if !read(early) {
		t.Errorf("%q is not read", want)
	}
	if string(b) != want || !roomIsEmpty(b, func(c byte) bool { return c == 0 }) {
		t.Errorf("what is read is changed to %q", b[:cap(b)])
	}
	if late.Num() != -7 {
		t.Error("-7 is not read")
	}
	overwrite(b, '!')
	if late.Text(2) != "ab" || late.Left() != len(want)-8 || !read(other) {
		t.Error("an In changes with the bytes that it is of")
	}
}

func TestTextsToldAreKept(t *testing.T) { // R6
	b := []byte("2:ab,1;2:cd,1;1:a,0:,0;0;0;")
	i := code.Of(b)
	s, l, p := i.Text(2), i.Texts(1, 2), i.Prim()
	overwrite(b, '!')
	if s != "ab" || l[0] != "cd" || p.Name != "a" {
		t.Errorf("told were %q, %q, %#v", s, l, p)
	}
}

func TestWritingKeepsNothing(t *testing.T) { // R5, R6
	var o code.Out
	l, p := roomyLines("x", "y"), roomyPatch()
	want := bytesOf(l) + bytesOf(p.L[1]) + bytesOf(p.L) + bytesOf(p)
	was := bytesOf(p)
	o.Texts(l)
	o.Prim(p.L[1])
	o.Prims(p.L)
	o.Patch(p)
	if bytesOf(l) != "2;1:x,1:y," || bytesOf(p) != was {
		t.Errorf("what was written is changed to %q, %#v", l, p)
	}
	empty := roomIsEmpty(l, noText) && roomIsEmpty(p.Deps, func(n int) bool { return n == 0 }) && roomIsEmpty(p.L, func(q prim.Prim) bool { return q.Name == "" })
	for _, q := range p.L {
		empty = empty && roomIsEmpty(q.Old, noText) && roomIsEmpty(q.New, noText)
	}
	if !empty {
		t.Error("something was written behind what was handed in")
	}
	overwrite(l, "written")
	spoil(p)
	if b := o.Bytes(); string(b) != want {
		t.Errorf("the bytes are %q, want %q", b, want)
	}
	o.Num(1)
	if b := o.Bytes(); string(b) != want+"1;" {
		t.Errorf("the bytes are %q, want %q", b, want+"1;")
	}
}

func TestToldIsTheCallersOwn(t *testing.T) { // R6
	p := roomyPatch()
	var o code.Out
	for range 2 {
		o.Patch(p)
		o.Prims(p.L)
		o.Prim(p.L[1])
		o.Texts(row("x", "y"))
	}
	b, want := o.Bytes(), bytesOf(p)
	i := code.Of(b)
	for range 2 { // what is told first is written into ahead of what is told next
		got := i.Patch()
		if bytesOf(got) != want {
			t.Fatalf("%#v is read, want %#v", got, p)
		}
		l := i.Prims(3)
		spoil(got)
		if bytesOf(l) != bytesOf(p.L) {
			t.Errorf("prims %#v share with a patch", l)
		}
		q := i.Prim()
		spoil(named.Patch{L: l})
		if bytesOf(q) != bytesOf(p.L[1]) {
			t.Errorf("prim %#v shares with others", q)
		}
		s := i.Texts(2, 1)
		spoil(named.Patch{L: []prim.Prim{q}})
		if !slices.Equal(s, row("x", "y")) {
			t.Errorf("texts %q share with a prim", s)
		}
		overwrite(s, "written")
	}
	if !i.Done() || !bytes.Equal(b, o.Bytes()) {
		t.Error("not all is read, or the bytes are changed")
	}
}

func TestRowsOfOneThingDoNotShare(t *testing.T) { // R6
	p := roomyPatch()
	for name, l := range map[string][]prim.Prim{
		"Prims": code.Of([]byte(bytesOf(p.L))).Prims(3),
		"Patch": code.Of([]byte(bytesOf(p))).Patch().L,
	} {
		for k := range l {
			overwrite(l[k].Old, "written")
			if bytesOf(l[k].New) != bytesOf(p.L[k].New) {
				t.Errorf("%s: Old and New of prim %d share", name, k)
			}
			overwrite(l[k].New, "written")
			if bytesOf(l[k+1:]) != bytesOf(p.L[k+1:]) {
				t.Errorf("%s: prim %d and those behind it share", name, k)
			}
		}
	}
	q := code.Of([]byte(bytesOf(p.L[1]))).Prim()
	overwrite(q.New, "written")
	if bytesOf(q.Old) != bytesOf(p.L[1].Old) {
		t.Error("Prim: New and Old share")
	}
}

func TestTheSameAlways(t *testing.T) { // R7
	for range 3 {
		for _, s := range someThings() {
			var o code.Out
			write(&o, s.x)
			if b := string(o.Bytes()); b != bytesOf(s.x) {
				t.Errorf("%#v is written %q", s.x, b)
			}
			tells(t, s.c, bytesOf(s.x), "", s.x)
		}
	}
}
