package code_test

import (
	"fmt"
	"math"
	"math/big"
	"math/rand"
	"regexp"
	"strings"
	"testing"

	"quiltwork/code"
	"quiltwork/named"
	"quiltwork/prim"
)

const far = 1099511627776

// bytesOf is how a thing is written, by the chapter's words, without a call of the package. Things are held against each other by it, so that an empty row is as good as none.
func bytesOf(x any) string {
	switch x := x.(type) {
	case int:
		return fmt.Sprintf("%d;", max(-far, min(x, far)))
	case bool:
		return map[bool]string{true: "1;", false: "0;"}[x]
	case string:
		return fmt.Sprintf("%d:%s,", len(x), x)
	case []int:
		return bytesOfRow(x)
	case []string:
		return bytesOfRow(x)
	case []prim.Prim:
		return bytesOfRow(x)
	case prim.Prim:
		return bytesOf(x.Kind) + bytesOf(x.Name) + bytesOf(x.To) + bytesOf(x.At) + bytesOf(x.Old) + bytesOf(x.New)
	case named.Patch:
		return bytesOf(x.Id) + bytesOf(x.Note) + bytesOf(x.Deps) + bytesOf(x.L)
	}
	panic("no thing")
}

func bytesOfRow[T any](l []T) string {
	var s strings.Builder
	s.WriteString(bytesOf(len(l)))
	for _, x := range l {
		s.WriteString(bytesOf(x))
	}
	return s.String()
}

// rule reads by the chapter's words: what stands next is found by patterns. It holds what is not read.
type rule struct {
	s   string
	bad bool
}

var (
	numeral = regexp.MustCompile(`^(0|-?[1-9][0-9]*);`)
	counted = regexp.MustCompile(`^(0|[1-9][0-9]*):`)
)

func (r *rule) digits(pattern *regexp.Regexp, least, most int) int {
	m := pattern.FindStringSubmatch(r.s)
	if r.bad || m == nil {
		r.bad = true
		return 0
	}
	n, _ := new(big.Int).SetString(m[1], 10)
	if n.Cmp(big.NewInt(int64(least))) < 0 || n.Cmp(big.NewInt(int64(most))) > 0 {
		r.bad = true
		return 0
	}
	r.s = r.s[len(m[0]):]
	return int(n.Int64())
}

func (r *rule) num() int { return r.digits(numeral, -far, far) }

func (r *rule) flag() bool { return r.digits(numeral, 0, 1) == 1 }

func (r *rule) text(most int) string {
	n := r.digits(counted, 0, most)
	if r.bad || n >= len(r.s) || r.s[n] != ',' {
		r.bad = true
		return ""
	}
	s := r.s[:n]
	r.s = r.s[n+1:]
	return s
}

func (r *rule) texts(most, each int) (l []string) {
	for n := r.digits(numeral, 0, min(most, far)); n > 0 && !r.bad; n-- {
		l = append(l, r.text(each))
	}
	return l
}

func (r *rule) prim() prim.Prim {
	p := prim.Prim{Kind: r.num(), Name: r.text(math.MaxInt), To: r.text(math.MaxInt), At: r.num()}
	p.Old = r.texts(math.MaxInt, math.MaxInt)
	p.New = r.texts(math.MaxInt, math.MaxInt)
	r.bad = r.bad || !prim.Right(p)
	return p
}

func (r *rule) prims(most int) (l []prim.Prim) {
	for n := r.digits(numeral, 0, min(most, far)); n > 0 && !r.bad; n-- {
		l = append(l, r.prim())
	}
	return l
}

func (r *rule) patch() named.Patch {
	p := named.Patch{Id: r.num(), Note: r.text(math.MaxInt)}
	for n := r.digits(numeral, 0, far); n > 0 && !r.bad; n-- {
		p.Deps = append(p.Deps, r.num())
	}
	p.L = r.prims(math.MaxInt)
	r.bad = r.bad || !named.Right(p)
	return p
}

// call is one that reads, as the package has it and as the rule has it.
type call struct {
	name string
	none any // what it tells of an In that is spoiled
	read func(i *code.In) any
	rule func(r *rule) any
}

var (
	num   = call{"Num", 0, func(i *code.In) any { return i.Num() }, func(r *rule) any { return r.num() }}
	flag  = call{"Flag", false, func(i *code.In) any { return i.Flag() }, func(r *rule) any { return r.flag() }}
	one   = call{"Prim", prim.Prim{}, func(i *code.In) any { return i.Prim() }, func(r *rule) any { return r.prim() }}
	patch = call{"Patch", named.Patch{}, func(i *code.In) any { return i.Patch() }, func(r *rule) any { return r.patch() }}
)

func text(most int) call {
	return call{fmt.Sprintf("Text(%d)", most), "", func(i *code.In) any { return i.Text(most) }, func(r *rule) any { return r.text(most) }}
}

func texts(most, each int) call {
	return call{fmt.Sprintf("Texts(%d, %d)", most, each), []string(nil), func(i *code.In) any { return i.Texts(most, each) }, func(r *rule) any { return r.texts(most, each) }}
}

func prims(most int) call {
	return call{fmt.Sprintf("Prims(%d)", most), []prim.Prim(nil), func(i *code.In) any { return i.Prims(most) }, func(r *rule) any { return r.prims(most) }}
}

// anyCalls are calls of all kinds, with limits that let all pass.
func anyCalls() []call {
	return []call{num, flag, text(math.MaxInt), texts(math.MaxInt, math.MaxInt), one, prims(math.MaxInt), patch}
}

// limits are what the limits of a call are tried with.
var limits = []int{math.MinInt, -2, -1, 0, 1, 2, 3, 9, 10, 11, far, math.MaxInt}

// limitedCalls are those calls that have limits, with all of these.
func limitedCalls() (l []call) {
	for _, most := range limits {
		l = append(l, text(most), prims(most))
		for _, each := range limits {
			l = append(l, texts(most, each))
		}
	}
	return l
}

// stays holds that i is spoiled, with so many bytes behind it, and that each call tells a zero thing and leaves it there.
func stays(t testing.TB, by call, b string, i *code.In, left int) {
	t.Helper()
	if i.Left() != left || i.Done() {
		t.Fatalf("%s of %q, spoiled: %d bytes are left, want %d; Done: %v", by.name, b, i.Left(), left, i.Done())
	}
	for _, c := range anyCalls() {
		if x := c.read(i); bytesOf(x) != bytesOf(c.none) || i.Left() != left || i.Done() {
			t.Fatalf("%s of %q, spoiled: %s tells %#v, and leaves %d bytes, want %d; Done: %v", by.name, b, c.name, x, i.Left(), left, i.Done())
		}
	}
}

// reads holds what a call tells of these bytes, and what it leaves, against the rule; and, if these are read, that they are those that the thing is written as.
func reads(t testing.TB, c call, b string) (is bool) {
	t.Helper()
	i, r := code.Of([]byte(b)), &rule{s: b}
	x, want := c.read(i), c.rule(r)
	if r.bad {
		if bytesOf(x) != bytesOf(c.none) {
			t.Fatalf("%s of %q tells %#v, want nothing", c.name, b, x)
		}
		stays(t, c, b, i, len(b))
		return false
	}
	if bytesOf(x) != bytesOf(want) || i.Left() != len(r.s) || i.Done() != (r.s == "") {
		t.Fatalf("%s of %q tells %#v and leaves %d, want %#v and %d; Done: %v", c.name, b, x, i.Left(), want, len(r.s), i.Done())
	}
	if bytesOf(x)+b[len(b)-i.Left():] != b {
		t.Fatalf("%s of %q tells %#v, which is written as %q", c.name, b, x, bytesOf(x))
	}
	return true
}

// someThings are things that may be, each with a call that tells it.
func someThings() []struct {
	c call
	x any
} {
	return []struct {
		c call
		x any
	}{
		{num, 0},
		{num, -7},
		{num, far},
		{flag, true},
		{flag, false},
		{text(9), ""},
		{text(12), "a:1,2;b\x00\xff\n"},
		{texts(2, 9), row()},
		{texts(4, 10), row("", "a,", ";", "0123456789")},
		{one, prim.Prim{Kind: prim.Add, Name: "a"}},
		{one, prim.Prim{Kind: prim.Move, Name: "b", To: "a"}},
		{one, hunk("a", 10, row("x", ""), row("1:,"))},
		{prims(3), []prim.Prim(nil)},
		{prims(3), []prim.Prim{{Kind: prim.Rm, Name: "a-/"}, hunk("b", 0, nil, row("y"))}},
		{patch, named.Patch{Id: 7, L: []prim.Prim{{Kind: prim.Add, Name: "b"}}}},
		{patch, named.Patch{Id: 10, Note: "n:1,", Deps: []int{2, 5, 12}, L: []prim.Prim{{Kind: prim.Add, Name: "b"}, hunk("b", 3, row("x"), nil)}}},
	}
}

func TestOneByteOther(t *testing.T) { // P9.2, P9.3
	for _, s := range someThings() {
		b := bytesOf(s.x)
		if !reads(t, s.c, b) {
			t.Fatalf("%s tells nothing of %q", s.c.name, b)
		}
		for at := range len(b) {
			for other := range 256 {
				reads(t, s.c, b[:at]+string([]byte{byte(other)})+b[at+1:])
			}
			reads(t, s.c, b[:at]+b[at+1:])
		}
		for at := range len(b) + 1 {
			for _, more := range []string{"0", "1", "9", "-", "+", ":", ";", ",", "a", " ", "\n", "\xff", "0;", "0:,"} {
				reads(t, s.c, b[:at]+more+b[at:])
			}
		}
	}
}

func TestCutShort(t *testing.T) { // P9.2
	for _, s := range someThings() {
		b := bytesOf(s.x)
		for n := range len(b) {
			i := code.Of([]byte(b[:n]))
			if x := s.c.read(i); bytesOf(x) != bytesOf(s.c.none) {
				t.Fatalf("%s of %q tells %#v", s.c.name, b[:n], x)
			}
			stays(t, s.c, b[:n], i, n)
		}
	}
}

func TestCutShortBehindOthers(t *testing.T) { // P9.2: it stays behind the last thing that was read
	for _, s := range someThings() {
		b := bytesOf(s.x)
		for n := range len(b) {
			i := code.Of([]byte("-7;2:ab," + b[:n]))
			if i.Num() != -7 || i.Text(2) != "ab" || i.Left() != n {
				t.Fatalf("what is ahead of %q is not read", b[:n])
			}
			s.c.read(i)
			stays(t, s.c, b[:n], i, n)
		}
	}
}

func TestAnyCallOfAnyThing(t *testing.T) { // P9.2
	for _, s := range someThings() {
		for _, c := range append(anyCalls(), limitedCalls()...) {
			for _, behind := range []string{"", "0;", "x", bytesOf(s.x)} {
				reads(t, c, bytesOf(s.x)+behind)
			}
		}
	}
}

// eachText hands do all texts of these bytes that have at most most of them.
func eachText(most int, alphabet string, do func(b string)) {
	var grow func(b string)
	grow = func(b string) {
		do(b)
		if len(b) == most {
			return
		}
		for k := range len(alphabet) {
			grow(b + alphabet[k:k+1])
		}
	}
	grow("")
}

func TestAllShortBytes(t *testing.T) { // P9.2, P9.3
	read := map[string]int{}
	for _, a := range []struct {
		most     int
		alphabet string
		calls    []call
	}{
		{5, "019-+; ", []call{num, flag}},
		{6, "012:,a;", []call{text(1), text(9)}},
		{6, "012:,;", []call{texts(1, 1), texts(9, 9)}},
		{5, "01:,;-a", anyCalls()},
	} {
		eachText(a.most, a.alphabet, func(b string) {
			for _, c := range a.calls {
				if reads(t, c, b) {
					read[c.name]++
				}
			}
		})
	}
	for _, name := range []string{"Num", "Flag", "Text(1)", "Text(9)", "Texts(1, 1)", "Texts(9, 9)"} {
		if read[name] < 10 {
			t.Errorf("%s was read %d times", name, read[name])
		}
	}
}

// dice throws things that may be, and, now and then, such as may not.
type dice struct{ *rand.Rand }

func roll(seed int64) dice { return dice{rand.New(rand.NewSource(seed))} }

func pick[T any](d dice, l ...T) T { return l[d.Intn(len(l))] }

func (d dice) text(most int) string {
	b := make([]byte, d.Intn(most+1))
	for k := range b {
		b[k] = pick[byte](d, 'a', 'b', '0', '1', ':', ';', ',', '-', 0, 10, 200, 255)
	}
	return string(b)
}

func (d dice) name() string {
	return pick(d, "a", "b", "c", "d/", "a/b.c", "x-_9", "0", ".", "n", strings.Repeat("n", 24), "", strings.Repeat("n", 25))
}

func (d dice) lines() (l []string) {
	for range d.Intn(4) {
		l = append(l, strings.ReplaceAll(d.text(12), "\n", pick(d, "", "", "", "", "", "", "", "\n")))
	}
	return l
}

func (d dice) prim() prim.Prim {
	switch p := (prim.Prim{Kind: d.Intn(4), Name: d.name()}); {
	case d.Intn(12) == 0: // all at random
		return prim.Prim{Kind: d.Intn(6) - 1, Name: d.name(), To: d.name(), At: d.number(), Old: d.lines(), New: d.lines()}
	case p.Kind == prim.Move:
		p.To = d.name()
		return p
	case p.Kind == prim.Hunk:
		p.At, p.Old, p.New = d.Intn(1<<20+1), d.lines(), d.lines()
		return p
	default:
		return p
	}
}

func (d dice) prims() (l []prim.Prim) {
	for range d.Intn(4) {
		l = append(l, d.prim())
	}
	return l
}

func (d dice) number() int {
	return pick(d, 0, 1, -1, d.Intn(100), d.Intn(1<<40), -d.Intn(1<<40), far, -far, far+1, -far-1, math.MaxInt, math.MinInt)
}

func (d dice) patch() named.Patch {
	p := named.Patch{Id: 1 + d.Intn(1000), Note: strings.ReplaceAll(d.text(9), "\n", ""), L: d.prims()}
	for id := 0; d.Intn(2) == 0; {
		id += 1 + d.Intn(500)
		p.Deps = append(p.Deps, id)
	}
	if d.Intn(12) == 0 {
		p.Id, p.Note = d.number(), d.text(70)
	}
	return p
}

// thing is one of any kind, with a call whose limits are about those that it has.
func (d dice) thing() (c call, x any) {
	slack := pick(d, 0, 0, 0, 1, 100, math.MaxInt/2, -1)
	switch d.Intn(7) {
	case 0:
		return num, d.number()
	case 1:
		return flag, d.Intn(2) == 0
	case 2:
		s := d.text(20)
		return text(len(s) + slack), s
	case 3:
		l, longest := d.lines(), 0
		for _, s := range l {
			longest = max(longest, len(s))
		}
		return texts(len(l)+pick(d, slack, 0), longest+pick(d, slack, 0)), l
	case 4:
		return one, d.prim()
	case 5:
		l := d.prims()
		return prims(len(l) + slack), l
	}
	return patch, d.patch()
}

func write(o *code.Out, x any) {
	switch x := x.(type) {
	case int:
		o.Num(x)
	case bool:
		o.Flag(x)
	case string:
		o.Text(x)
	case []string:
		o.Texts(x)
	case prim.Prim:
		o.Prim(x)
	case []prim.Prim:
		o.Prims(x)
	case named.Patch:
		o.Patch(x)
	default:
		panic("no thing")
	}
}

// mayBe tells whether the call may tell a thing, by the rule.
func mayBe(c call, x any) bool {
	r := &rule{s: bytesOf(x)}
	c.rule(r)
	return !r.bad
}

func TestWrittenIsRead(t *testing.T) { // P9.1, P9.2, P9.3
	d, whole, spoiled := roll(1), map[string]int{}, map[string]int{}
	for range 20000 {
		var o code.Out
		var calls []call
		var things []any
		b := ""
		for range d.Intn(8) {
			c, x := d.thing()
			calls, things = append(calls, c), append(things, x)
			write(&o, x)
			b += bytesOf(x)
		}
		if got := string(o.Bytes()); got != b {
			t.Fatalf("%#v are written %q, want %q", things, got, b)
		}
		i, left, bad := code.Of(o.Bytes()), len(b), false
		for k, x := range things {
			c, kind, want := calls[k], strings.SplitN(calls[k].name, "(", 2)[0], bytesOf(calls[k].none)
			if bad = bad || !mayBe(c, x); !bad {
				want = bytesOf(x)
				left -= len(want)
				whole[kind]++
			} else {
				spoiled[kind]++
			}
			if got := c.read(i); bytesOf(got) != want || i.Left() != left || i.Done() != (left == 0 && !bad) {
				t.Fatalf("%s of %q, written of %#v, tells %#v and leaves %d, want %q and %d; Done: %v", c.name, b, x, got, i.Left(), want, left, i.Done())
			}
		}
		if bad {
			stays(t, calls[len(calls)-1], b, i, left)
		}
	}
	for _, kind := range []string{"Num", "Flag", "Text", "Texts", "Prim", "Prims", "Patch"} {
		if whole[kind] < 1000 || spoiled[kind] < 1000 {
			t.Errorf("%s: %d were read, %d spoiled", kind, whole[kind], spoiled[kind])
		}
	}
}

func TestAnyBytesAtAll(t *testing.T) { // R1, P9.2, P9.3
	d, read := roll(2), 0
	pieces := []string{"0;", "1;", "2;", "-1;", "12;", "0:,", "1:a,", "1:b,", "2:ab,", ";", ":", ",", "-", "0", "1", "9", "a", "\n", "\xff", "1099511627776;", "1099511627777;", "99999999999999999999;", "99999999999999999999:", "9223372036854775807:", "9223372036854775808;"}
	for range 20000 {
		b := ""
		for range d.Intn(24) {
			b += pieces[d.Intn(pick(d, 9, 9, 9, len(pieces)))]
		}
		most, each := pick(d, limits...), pick(d, limits...)
		for _, c := range append(anyCalls(), text(most), texts(most, each), prims(most)) {
			if reads(t, c, b) {
				read++
			}
		}
	}
	if read < 10000 {
		t.Errorf("%d things were read", read)
	}
}
