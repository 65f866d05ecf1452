package log_test

import (
	"slices"
	"testing"

	"quiltwork/api"
	"quiltwork/log"
	"quiltwork/named"
	"quiltwork/prim"
)

// roomy is a patch with room behind all its rows, where a careless append would write.
func roomy(p named.Patch) named.Patch {
	p.Deps = append(make([]int, 0, len(p.Deps)+4), p.Deps...)
	l := make([]prim.Prim, 0, len(p.L)+4)
	for _, q := range p.L {
		q.Old = append(make([]string, 0, len(q.Old)+4), q.Old...)
		q.New = append(make([]string, 0, len(q.New)+4), q.New...)
		l = append(l, q)
	}
	p.L = l
	return p
}

// spoil writes into all rows of a patch, and into their room.
func spoil(p named.Patch) {
	deps, l := p.Deps[:cap(p.Deps)], p.L[:cap(p.L)]
	for k := range deps {
		deps[k] = -9
	}
	for k := range l {
		overwrite(l[k].Old)
		overwrite(l[k].New)
		l[k] = prim.Prim{Kind: 9, Name: "written", Old: l[k].Old, New: l[k].New}
	}
}

// spoilAll writes into all patches of a list, and into its room.
func spoilAll(l []named.Patch) {
	for _, p := range l {
		spoil(p)
	}
	l = l[:cap(l)]
	for k := range l {
		l[k].Id, l[k].Note = -9, "written"
	}
}

// roomIsWritten tells whether something was written behind a row of the patch.
func roomIsWritten(p named.Patch) bool {
	if slices.ContainsFunc(p.Deps[len(p.Deps):cap(p.Deps)], func(id int) bool { return id != 0 }) {
		return true
	}
	return slices.ContainsFunc(p.L[len(p.L):cap(p.L)], func(q prim.Prim) bool { return q.Name != "" }) ||
		slices.ContainsFunc(p.L, func(q prim.Prim) bool {
			written := func(s string) bool { return s != "" }
			return slices.ContainsFunc(q.Old[len(q.Old):cap(q.Old)], written) || slices.ContainsFunc(q.New[len(q.New):cap(q.New)], written)
		})
}

// work does each call to the log, with the patches of some in it, so that patches are swapped, stuck, taken and dropped.
func work(l *log.Log) {
	l.Last(1)
	l.Last(3)
	l.Order(on(1, 5, 3, 4, 2, 6))
	l.Order(on(2, 4, 1, 5, 3, 6))
	l.Needs(1)
	log.Same(l, l)
	l.Add(patch(7, on(6), hunk("b", 0, "", "x")))
	l.Add(patch(7, on(6), hunk("b", 0, "", "x")))
	l.Take(5)
	l.Drop()
	l.Take(1)
}

func TestAddKeepsNothing(t *testing.T) { // R5, R6
	want := of(t, some()...)
	work(want)
	given, l := []named.Patch(nil), log.New()
	for _, p := range some() {
		p = roomy(p)
		given = append(given, p)
		l.Add(p)
		c := l.Copy()
		work(c)
	}
	for k, p := range given {
		if !alike(p, some()[k]) || roomIsWritten(p) {
			t.Errorf("%v, which was added, is %v", some()[k], p)
		}
	}
	c := l.Copy()
	spoilAll(given)
	held(t, l, some())
	held(t, c, some())
	work(l)
	held(t, l, want.All())
	// Rows that are pieces of one, and patches that share theirs.
	lines := append(make([]string, 0, 9), "p", "q", "p")
	row := []prim.Prim{add("a"), {Kind: prim.Hunk, Name: "a", New: lines[:2]}, {Kind: prim.Hunk, Name: "a", At: 2, New: lines[1:]}}
	l = of(t, named.Patch{Id: 1, L: row[:1]}, named.Patch{Id: 2, L: row[1:2]}, named.Patch{Id: 3, L: row[1:3]})
	was := l.All()
	overwrite(lines)
	spoil(named.Patch{L: row})
	held(t, l, was)
}

func TestOrderKeepsNothing(t *testing.T) { // R5, R6
	l := of(t, some()...)
	order := append(make([]int, 0, 16), 2, 4, 1, 5, 3, 6)
	if e := l.Order(order); e != api.OK {
		t.Fatalf("Order tells %d", e)
	}
	was := l.All()
	room := order[:cap(order)]
	if !slices.Equal(room, append([]int{2, 4, 1, 5, 3, 6}, make([]int, cap(order)-6)...)) {
		t.Errorf("Order writes into what it is given: %v", room)
	}
	for k := range room {
		room[k] = -9
	}
	held(t, l, was)
}

// told are the calls that tell patches; some have these go.
var told = []struct {
	name string
	call func(l *log.Log) []named.Patch
}{
	{"All", func(l *log.Log) []named.Patch { return l.All() }},
	{"Get", func(l *log.Log) []named.Patch {
		var out []named.Patch
		for _, id := range l.Ids() {
			p, _ := l.Get(id)
			out = append(out, p)
		}
		return out
	}},
	{"Drop", func(l *log.Log) []named.Patch {
		p, _ := l.Drop()
		q, _ := l.Drop()
		return []named.Patch{p, q}
	}},
	{"Take 1", func(l *log.Log) []named.Patch {
		group, _ := l.Take(1)
		return group
	}},
	{"Take 3", func(l *log.Log) []named.Patch {
		group, _ := l.Take(3)
		return group
	}},
	{"Take 6", func(l *log.Log) []named.Patch {
		group, _ := l.Take(6)
		return group
	}},
}

func TestPatchesOfTheirOwn(t *testing.T) { // R6
	for _, c := range told {
		for _, turned := range []bool{false, true} {
			l := of(t, some()...)
			if turned {
				l.Order(on(2, 1, 5, 6, 4, 3))
			}
			twin, answer := l.Copy(), c.call(l)
			was := l.All()
			want := copiedAll(answer)
			if kept := c.call(twin.Copy()); !allAlike(kept, want) { // R7
				t.Errorf("%s tells %v, and then %v", c.name, want, kept)
			}
			all := twin.All()
			for k := range answer { // no two of the patches share
				spoil(answer[k])
				if !allAlike(answer[k+1:], want[k+1:]) {
					t.Errorf("%s: patches that are told share", c.name)
				}
			}
			spoilAll(answer)
			held(t, l, was)
			held(t, twin, all)
			work(l)
			// What is told stays, whatever becomes of the log.
			kept := c.call(twin)
			work(twin)
			for _, p := range all {
				twin.Add(p)
			}
			work(twin)
			if !allAlike(kept, want) {
				t.Errorf("%s told %v, which became %v", c.name, want, kept)
			}
		}
	}
}

// overwrite writes into the lines, and into their room.
func overwrite(lines []string) {
	lines = lines[:cap(lines)]
	for k := range lines {
		lines[k] = "written"
	}
}

func TestRowsOfTheirOwn(t *testing.T) { // R6
	for _, c := range told {
		l := patch(1, nil, add("a"), hunk("a", 0, "", "1 2 3"), hunk("a", 0, "1 2", "3 4"), hunk("a", 0, "3 4", "1 2"))
		next := []named.Patch{l, patch(3, on(1), l.L[2:]...), patch(6, on(1, 3), l.L[2:]...)}
		want := c.call(of(t, next...))
		for k, p := range c.call(of(t, next...)) {
			for n, q := range p.L {
				overwrite(q.Old)
				if !slices.Equal(q.New, want[k].L[n].New) {
					t.Errorf("%s: Old and New share", c.name)
				}
				overwrite(q.New)
				for later := n + 1; later < len(p.L); later++ {
					if !slices.Equal(p.L[later].Old, want[k].L[later].Old) || !slices.Equal(p.L[later].New, want[k].L[later].New) {
						t.Errorf("%s: prims of one patch share", c.name)
					}
				}
			}
		}
	}
}

func TestNumbersAndTreesOfTheirOwn(t *testing.T) { // R6
	l := of(t, some()...)
	for _, call := range []func() []int{l.Ids, func() []int { return l.Needs(1) }} {
		kept, got := call(), call()
		was := slices.Clone(kept)
		got = got[:cap(got)]
		for k := range got {
			got[k] = -9
		}
		held(t, l, some())
		if again := call(); !slices.Equal(kept, was) || !slices.Equal(again, was) {
			t.Errorf("%v was told, which became %v, and then %v", was, kept, again)
		}
	}
	kept, x := l.Tree(), l.Tree()
	was := x.Text()
	x.Put("a", []string{"written"})
	x.Remove("b")
	x.Move("c", "e")
	x.Add("f")
	held(t, l, some())
	c := l.Copy()
	c.Tree().Add("f")
	held(t, c, some())
	work(l)
	if kept.Text() != was {
		t.Errorf("a tree that was told is changed to %q", kept.Text())
	}
}
