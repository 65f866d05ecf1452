package block_test

import (
	"bytes"
	"math"
	"math/rand"
	"slices"
	"testing"

	"quiltwork/api"
	"quiltwork/block"
)

// rule is a device by the chapter's words: what was flushed, byte by byte, and the row. What the blocks have is worked out anew whenever it is asked.
type rule struct {
	flushed []byte
	row     []written
	ops     int
	fall    []bool // fall[k]: the k-th op from now on brings it down
	down    bool
}

type written struct {
	k int
	b []byte // as many as a block has
}

// padded is b with zeros behind it, until it is of n bytes.
func padded(b []byte, n int) []byte {
	return append(slices.Clone(b), make([]byte, n-len(b))...)
}

func newRule(flushed []byte) *rule {
	return &rule{flushed: flushed}
}

// halves is, of each block and each half of it, the bytes of the last write of the row that has that half there, or what was flushed.
func (r *rule) halves(there func(place, half int) bool) []byte {
	var all []byte
	for k := range len(r.flushed) / 64 {
		for half := range 2 {
			from := 32 * half
			b := r.flushed[64*k:][from : from+32]
			for place, w := range r.row {
				if w.k == k && there(place, half) {
					b = w.b[from : from+32]
				}
			}
			all = append(all, b...)
		}
	}
	return all
}

func (r *rule) image() []byte {
	return r.halves(func(int, int) bool { return true })
}

func (r *rule) count() int {
	return len(r.flushed) / 64
}

func (r *rule) op() bool {
	r.ops++
	if len(r.fall) > 0 {
		r.down, r.fall = r.fall[0], r.fall[1:]
	}
	return !r.down
}

func (r *rule) write(k int, b []byte) api.Errno {
	switch {
	case r.down:
		return 100
	case k < 0 || k >= r.count() || len(b) > 64:
		return 101
	}
	r.row = append(r.row, written{k, padded(b, 64)})
	if !r.op() {
		return 100
	}
	return 0
}

func (r *rule) flush() api.Errno {
	if r.down || !r.op() {
		return 100
	}
	r.flushed, r.row = r.image(), nil
	return 0
}

// arm takes no n above 50: so far no test goes.
func (r *rule) arm(n int) {
	r.fall = nil
	if n >= 0 {
		r.fall = append(make([]bool, min(n, 50)), n < 50)
	}
}

func (r *rule) crash(forms []int) {
	r.flushed = r.halves(func(place, half int) bool {
		if len(forms) == 0 {
			return false
		}
		form := 0
		if f := forms[place%len(forms)]; f >= 0 {
			form = f % 4
		}
		return form == 1 || form == 2+half
	})
	r.row, r.fall, r.down = nil, nil, false
}

func (r *rule) copy() *rule {
	c := *r
	c.flushed, c.row, c.fall = slices.Clone(r.flushed), slices.Clone(r.row), slices.Clone(r.fall)
	return &c
}

// hold holds all that a device tells against the rule. Nothing of that changes it.
func (r *rule) hold(t *testing.T, d *block.Dev, what any) {
	t.Helper()
	image := r.image()
	if !bytes.Equal(d.Image(), image) {
		t.Fatalf("%v: the image is %v, want %v", what, brief(d.Image()), brief(image))
	}
	if d.Count() != r.count() || d.Pending() != len(r.row) || d.Ops() != r.ops || d.Down() != r.down {
		t.Fatalf("%v: count %d, pending %d, ops %d, down %v; want %d, %d, %d, %v", what, d.Count(), d.Pending(), d.Ops(), d.Down(), r.count(), len(r.row), r.ops, r.down)
	}
	places := []int{math.MinInt, -1, r.count(), math.MaxInt}
	for k := range min(4, r.count()) {
		places = append(places, k, r.count()-1-k)
	}
	for _, k := range places {
		var want []byte
		e := api.Errno(101)
		switch {
		case r.down:
			e = 100
		case 0 <= k && k < r.count():
			want, e = image[64*k:64*k+64], 0
		}
		if b, got := d.Read(k); got != e || !bytes.Equal(b, want) {
			t.Fatalf("%v: Read %d tells %v, %d; want %v, %d", what, k, brief(b), got, brief(want), e)
		}
	}
}

// brief is how many times each byte stands in a row, so that it can be read.
func brief(b []byte) [][2]int {
	var l [][2]int
	for _, c := range b {
		if n := len(l); n > 0 && l[n-1][1] == int(c) {
			l[n-1][0]++
			continue
		}
		l = append(l, [2]int{1, int(c)})
	}
	return l
}

// call is one call of a device, and the same of the rule.
type call struct {
	name  string
	k     int
	b     []byte
	forms []int
}

// on has a device and the rule do it, and holds what they tell against each other.
func (c call) on(t *testing.T, d *block.Dev, r *rule) {
	t.Helper()
	var got, want api.Errno
	switch c.name {
	case "Write":
		got, want = d.Write(c.k, c.b), r.write(c.k, c.b)
	case "Flush":
		got, want = d.Flush(), r.flush()
	case "Arm":
		d.Arm(c.k)
		r.arm(c.k)
	case "Crash":
		d.Crash(c.forms)
		r.crash(c.forms)
	}
	if got != want {
		t.Fatalf("%s %d %v tells %d, want %d", c.name, c.k, brief(c.b), got, want)
	}
}

// fewCalls are the calls of a device of two blocks that are unlike.
func fewCalls() []call {
	return []call{
		{name: "Write", k: 0, b: full(1)},
		{name: "Write", k: 0, b: bytes.Repeat([]byte{2}, 33)},
		{name: "Write", k: 1, b: full(3)},
		{name: "Write", k: 2, b: full(4)},
		{name: "Flush"},
		{name: "Arm", k: 0},
		{name: "Arm", k: 1},
		{name: "Arm", k: -1},
		{name: "Crash"},
		{name: "Crash", forms: []int{2, 1, 3}},
		{name: "Crash", forms: []int{3, -1}},
	}
}

func TestAllFewCalls(t *testing.T) { // P10.1 to P10.3
	calls := fewCalls()
	var walk func(d *block.Dev, r *rule, did []string, depth int)
	walk = func(d *block.Dev, r *rule, did []string, depth int) {
		r.hold(t, d, did)
		if depth == 0 {
			return
		}
		for n, c := range calls {
			e, q := d.Copy(), r.copy()
			c.on(t, e, q)
			walk(e, q, append(did[:len(did):len(did)], c.name+" "+string(rune('a'+n))), depth-1)
		}
		r.hold(t, d, did) // no copy changed it
	}
	start := append(full(8), full(9)...)
	walk(block.Of(start), newRule(start), nil, 5)
}

// randomBytes are some bytes of few kinds, now and then too many.
func randomBytes(dice *rand.Rand) []byte {
	b := make([]byte, []int{0, 1, 31, 32, 33, 63, 64, 64, 64, 65, 200}[dice.Intn(11)])
	dice.Read(b)
	return b
}

func randomForms(dice *rand.Rand) []int {
	forms := make([]int, dice.Intn(8))
	for k := range forms {
		forms[k] = dice.Intn(4)
		if dice.Intn(6) == 0 {
			forms[k] = []int{-1, -2, -3, -4, -5, 4, 5, 6, 7, math.MinInt, math.MaxInt}[dice.Intn(11)]
		}
	}
	return forms
}

func randomCall(dice *rand.Rand, count int) call {
	switch dice.Intn(20) {
	case 0, 1:
		return call{name: "Flush"}
	case 2:
		return call{name: "Arm", k: dice.Intn(14) - 2}
	case 3:
		return call{name: "Arm", k: []int{math.MinInt, math.MaxInt, 50, 1000}[dice.Intn(4)]}
	case 4:
		return call{name: "Crash", forms: randomForms(dice)}
	}
	return call{name: "Write", k: dice.Intn(count+2) - 1, b: randomBytes(dice)}
}

func TestDice(t *testing.T) { // P10.1 to P10.3
	dice := rand.New(rand.NewSource(10))
	for n := range 400 {
		image := make([]byte, 1+dice.Intn(5*64))
		dice.Read(image)
		d, r := block.Of(image), newRule(padded(image, (len(image)+63)/64*64))
		for m := range 40 {
			randomCall(dice, r.count()).on(t, d, r)
			r.hold(t, d, [2]int{n, m})
			if dice.Intn(10) == 0 {
				d = leave(t, dice, d, r)
				r.hold(t, d, "a copy")
			}
		}
	}
}

// leave tells a copy of a device, behind some calls of the device itself.
func leave(t *testing.T, dice *rand.Rand, d *block.Dev, r *rule) *block.Dev {
	t.Helper()
	c, q := d.Copy(), r.copy()
	for range 6 {
		randomCall(dice, q.count()).on(t, d, q)
		q.hold(t, d, "the one that was copied")
	}
	return c
}
