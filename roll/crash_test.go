package roll_test

import (
	"bytes"
	"fmt"
	"math/rand"
	"slices"
	"testing"

	"quiltwork/api"
	"quiltwork/block"
)

func TestDownAheadOfACall(t *testing.T) { // P11.2, P11.3: which error comes first
	for _, x := range []struct {
		name  string
		image []byte
		ahead []call
		c     call
		e     api.Errno
	}{
		{"room", zeros(9), nil, stage("a"), 100},
		{"room", zeros(9), nil, added("a"), 100},
		{"no room", zeros(9), nil, stage(xs(191)), 111},
		{"no room", zeros(9), nil, added(xs(191)), 111},
		{"no room", zeros(9), []call{stage("a"), stage("b"), stage("c")}, stage(""), 111},
		{"no room", zeros(9), []call{stage("a"), stage("b"), stage("c")}, added(""), 111},
		{"too many", zeros(9), nil, stage(xs(4001)), 110},
		{"too many", zeros(9), nil, added(xs(4001)), 110},
		{"too many", zeros(9), nil, reset("a", xs(4001)), 110},
		{"nothing is staged", zeros(9), nil, seal(), 0},
		{"nothing is staged", zeros(9), []call{added("a")}, seal(), 0},
		{"something is staged", zeros(9), []call{stage("a")}, seal(), 100},
		{"none", zeros(9), []call{added("a")}, reset(), 100},
		{"room", zeros(9), []call{added("a")}, reset("a"), 100},
		{"no room", zeros(9), []call{added("a")}, reset("a", "b", "c", "d"), 100},
		{"no number", with(zeros(9), 64, marked(0, 1<<40-1)...), []call{stage("a")}, seal(), 100},
		{"no number", with(zeros(9), 64, marked(0, 1<<40-1)...), nil, reset("a"), 100},
		{"no number", with(zeros(9), 64, marked(0, 1<<40-1)...), nil, added("a"), 100},
		{"no number, and no room", with(zeros(9), 64, marked(0, 1<<40-1)...), nil, reset(xs(191)), 100},
	} {
		d, r, q := ran(t, x.image, x.ahead...)
		d.Arm(0)
		d.Flush()
		q.ops++
		pending := d.Pending()
		if e := x.c.onRoll(r); e != x.e {
			t.Errorf("%s: %v tells %d, want %d", x.name, x.c, e, x.e)
		}
		q.hold(t, d, r, x.c) // nothing has changed
		if d.Pending() != pending {
			t.Errorf("%s: %v: %d writes in the row", x.name, x.c, d.Pending())
		}
	}
}

// someForms are all forms of so many writes, or, of more than four, as many of them.
func someForms(n int) [][]int {
	var all [][]int
	if n > 4 {
		dice := rand.New(rand.NewSource(int64(n)))
		for range 256 {
			forms := make([]int, n)
			for k := range forms {
				forms[k] = dice.Intn(4)
			}
			all = append(all, forms)
		}
		return append(all, []int{block.Lost}, []int{block.Kept}, []int{block.Front}, []int{block.Back})
	}
	for m := range 1 << (2 * n) {
		forms := make([]int, n)
		for k := range forms {
			forms[k] = m >> (2 * k) & 3
		}
		all = append(all, forms)
	}
	return all
}

// flushedImage is what is left of a device of which all is lost.
func flushedImage(d *block.Dev) []byte {
	c := d.Copy()
	c.Crash(nil)
	return c.Image()
}

// headAt is which of a call's ops writes its head; -1: none does.
func headAt(c call, steps []step) int {
	if c.name == "Stage" || len(steps) == 0 {
		return -1
	}
	return len(steps) - 2
}

// goesDown has a device go down at an op of a call, and holds what the device has then, and what is open behind a crash in any form.
func goesDown(t *testing.T, image []byte, ahead []call, c call, fuse int) {
	t.Helper()
	d, r, q := ran(t, image, ahead...)
	flushed := flushedImage(d)
	steps, next, want := q.does(c)
	if want != 0 || fuse >= len(steps) {
		return
	}
	what := fmt.Sprint(ahead, ", ", c, " at op ", fuse)
	d.Arm(fuse)
	if e := c.onRoll(r); e != api.ErrBlockDown || !d.Down() {
		t.Fatalf("%s: it tells %d", what, e)
	}
	down := q
	for k, s := range steps[:fuse+1] {
		if s.flush && k < fuse {
			flushed = down.image
		}
		down = down.after([]step{s})
	}
	if d.Ops() != down.ops || !bytes.Equal(d.Image(), down.image) || !bytes.Equal(flushedImage(d), flushed) {
		t.Fatalf("%s: %d ops, want %d\n%s, want\n%s", what, d.Ops(), down.ops, brief(d.Image()), brief(down.image))
	}
	head := headAt(c, steps)
	for _, forms := range someForms(d.Pending()) {
		crashed := d.Copy()
		crashed.Crash(forms)
		l := q.records
		if 0 <= head && head <= fuse && forms[len(forms)-1] == block.Kept {
			l = next.records
		}
		s := opened(t, crashed)
		if !sameRows(s.Records(), l) || s.Staged() != 0 {
			t.Fatalf("%s, %v: the records are %q, want %q", what, forms, s.Records(), l)
		}
		ruleOf(crashed.Image(), down.ops).hold(t, crashed, s, what)
		if len(forms) <= 2 {
			goesOn(t, crashed, l)
		}
	}
}

// goesOn has a roll be opened, and used.
func goesOn(t *testing.T, d *block.Dev, l [][]byte) {
	t.Helper()
	r, q := opened(t, d), ruleOf(d.Image(), d.Ops())
	q = reset("r").on(t, d, r, q, "goes on")
	if q.room() > 0 {
		q = added("").on(t, d, r, q, "goes on")
	}
	if s := opened(t, d).Records(); !sameRows(s, q.records) {
		t.Fatalf("goes on: the records are %q", s)
	}
}

// torn are images on which no head has bytes as a head has: a new one, and such as have any other bytes.
func torn() [][]byte {
	dice := rand.New(rand.NewSource(1104))
	noise := zeros(12)
	dice.Read(noise)
	halves := zeros(12)
	copy(halves, headOf(7, 0, 1, 1)[:32])
	copy(halves[64+32:], headOf(8, 1, 1, 1)[32:])
	full := bytes.Repeat([]byte{255}, 12*64)
	far := with(with(full, 0, marked(1<<40-30, 3)...), 64, marked(1<<40, 1<<40-40)...)
	return [][]byte{zeros(9), zeros(12), noise, halves, full, far}
}

func TestDownAtEachOp(t *testing.T) { // P11.2 to P11.4
	aheads := [][]call{
		nil,
		{stage("s")},
		{added("a")},
		{added("a"), stage("s")},
		{added("a"), added("b")},
		{added(xs(63)), reset("a")},
		{added("a"), reset(xs(63))},
		{reset("a", "b"), stage("s")},
		{reset("a"), reset("b"), reset(xs(70)), stage("s")},
		{added("a"), reset(), added("b")},
	}
	calls := []call{
		stage(""), stage("z"), stage(xs(63)), stage(xs(127)), seal(), added(""), added("z"), added(xs(63)), added(xs(127)),
		reset(), reset("y"), reset("y", "z"), reset("a", "y", "z"), reset(xs(63), "z"), reset(xs(190)),
	}
	for _, image := range torn() {
		for _, ahead := range aheads {
			for _, c := range calls {
				for fuse := range 12 {
					goesDown(t, image, ahead, c, fuse)
				}
			}
		}
	}
}

func TestDownAtEachOpOfALongOne(t *testing.T) { // P11.2 to P11.4
	for fuse := range 70 {
		for _, c := range []call{stage(xs(4000)), added(xs(4000)), reset(xs(4000)), reset(xs(2000), xs(1900))} {
			goesDown(t, zeros(150), []call{added("a")}, c, fuse)
		}
	}
}

func TestCrashBehindACall(t *testing.T) { // P11.4: what was sealed is kept, and what is staged is not
	eachRow(fewCalls(), 3, func(calls []call) {
		d, _, q := ran(t, zeros(8), calls...)
		for _, forms := range someForms(min(3, d.Pending())) {
			c := d.Copy()
			c.Crash(forms)
			if l := opened(t, c).Records(); !sameRows(l, q.records) {
				t.Fatalf("%v, %v: the records are %q, want %q", calls, forms, l, q.records)
			}
		}
	})
}

// tear has a device go down as the head is written of a record that is appended, and the head take that form.
func tear(t *testing.T, d *block.Dev, rec string, form int) {
	t.Helper()
	r := opened(t, d)
	if e := r.Stage([]byte(rec)); e != api.OK {
		t.Fatalf("Stage tells %d", e)
	}
	d.Arm(1)
	if e := r.Seal(); e != api.ErrBlockDown || d.Pending() != 1 {
		t.Fatalf("Seal tells %d, and %d writes are in the row", e, d.Pending())
	}
	d.Crash([]int{form})
}

func TestHeadsThatAreTornAgainAndAgain(t *testing.T) { // P11.4: no two halves of two heads make one that holds
	for _, image := range torn() {
		for n := range 1 << 10 {
			d := block.Of(image)
			var l [][]byte
			for k := range 5 {
				form := n >> (2 * k) & 3
				rec := string(rune('a' + k))
				if places(l) == ruleSize(image) {
					break
				}
				tear(t, d, rec, form)
				if form == block.Kept {
					l = append(l, []byte(rec))
				}
				if got := opened(t, d).Records(); !sameRows(got, l) {
					t.Fatalf("forms %d: the records are %q, want %q", n, got, l)
				}
			}
		}
	}
}

// tornImage is one on which no head has bytes as a head has.
func tornImage(dice *rand.Rand) []byte {
	for {
		image := zeros(4 + dice.Intn(16))
		if dice.Intn(3) > 0 {
			dice.Read(image)
		}
		for at := range 2 {
			if dice.Intn(2) == 0 {
				a, b := randomHead(dice, 3), randomHead(dice, 3)
				copy(image[64*at:], append(a[:32:32], b[32:]...))
			}
		}
		if !headLike(image[:64]) && !headLike(image[64:128]) {
			return image
		}
	}
}

// headLike tells whether a block has bytes as a head has, whatever the areas are.
func headLike(b []byte) bool {
	q := with(zeros(4), 0, b...)
	copy(q[9:17], make([]byte, 8)) // no blocks, and no records: these it has
	_, _, _, is := said(q, 0)
	return is
}

// onceDown does a call on a device that may go down at it, and crash. It tells what the records may be then.
func onceDown(dice *rand.Rand, d *block.Dev, q rule, c call, do func() api.Errno) (may [][][]byte, next rule, e api.Errno) {
	steps, next, want := q.does(c)
	fuse := dice.Intn(25)
	d.Arm(fuse)
	e = do()
	d.Arm(-1)
	if fuse >= len(steps) {
		if e != want {
			return nil, next, e
		}
		return [][][]byte{next.records}, next, e
	}
	may = [][][]byte{q.records}
	if c.name != "Stage" && fuse >= len(steps)-2 {
		may = append(may, next.records)
	}
	return may, next, e
}

func TestDiceOfCrashes(t *testing.T) { // P11.4
	dice := rand.New(rand.NewSource(114))
	for n := range 3000 {
		image := tornImage(dice)
		d, r, q := begun(t, image)
		for m := range 30 {
			c := randomCall(dice)
			may, next, e := onceDown(dice, d, q, c, func() api.Errno { return c.onRoll(r) })
			if may == nil {
				t.Fatalf("%d, %d: %v tells %d", n, m, c, e)
			}
			q = next
			if !d.Down() && dice.Intn(8) > 0 {
				q.hold(t, d, r, [2]int{n, m})
				continue
			}
			d.Crash([]int{dice.Intn(4), dice.Intn(4), dice.Intn(4)})
			r, q = opened(t, d), ruleOf(d.Image(), d.Ops())
			q.hold(t, d, r, "behind a crash")
			if !slices.ContainsFunc(may, func(l [][]byte) bool { return sameRows(l, r.Records()) }) {
				t.Fatalf("%d, %d: %v, and a crash: the records are %.200q, not one of %.400q", n, m, c, r.Records(), may)
			}
		}
	}
}
