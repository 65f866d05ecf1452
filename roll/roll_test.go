package roll_test

import (
	"bytes"
	"testing"

	"quiltwork/api"
	"quiltwork/block"
)

func TestTells(t *testing.T) { // P11.1: Records, Room and Staged
	for _, x := range []struct {
		calls  []call
		l      []string
		room   int
		staged int
	}{
		{nil, nil, 3, 0},
		{[]call{stage("a")}, nil, 2, 1},
		{[]call{stage("a"), stage(xs(63))}, nil, 0, 2},
		{[]call{stage(""), stage(""), stage("")}, nil, 0, 3},
		{[]call{stage("a"), seal()}, []string{"a"}, 2, 0},
		{[]call{added("a"), stage("b")}, []string{"a"}, 1, 1},
		{[]call{added("a"), stage("b"), seal()}, []string{"a", "b"}, 1, 0},
		{[]call{added("a"), added("b"), added("c")}, []string{"a", "b", "c"}, 0, 0},
		{[]call{added("c"), added("a"), added("c")}, []string{"c", "a", "c"}, 0, 0},
		{[]call{added(xs(190))}, []string{xs(190)}, 0, 0},
		{[]call{stage("a"), added("b")}, []string{"a", "b"}, 1, 0},
		{[]call{stage("a"), stage(xs(127))}, nil, 2, 1},
		{[]call{added("a"), reset()}, nil, 3, 0},
		{[]call{added("a"), stage("b"), reset("c", xs(63))}, []string{"c", xs(63)}, 0, 0},
		{[]call{reset("a", "b"), stage("c")}, []string{"a", "b"}, 0, 1},
	} {
		d, r, _ := ran(t, zeros(9), x.calls...)
		if !sameRows(r.Records(), rows(x.l...)) || r.Room() != x.room || r.Staged() != x.staged {
			t.Errorf("%v: %q, room %d, staged %d; want %q, %d, %d", x.calls, r.Records(), r.Room(), r.Staged(), x.l, x.room, x.staged)
		}
		again := opened(t, d) // what is staged is not kept
		if !sameRows(again.Records(), rows(x.l...)) || again.Staged() != 0 || again.Room() != 3-places(rows(x.l...)) {
			t.Errorf("%v, and opened again: %q, room %d, staged %d", x.calls, again.Records(), again.Room(), again.Staged())
		}
	}
}

func TestStage(t *testing.T) { // P11.2
	for _, x := range []struct{ n, blocks int }{
		{0, 1}, {1, 1}, {61, 1}, {62, 1}, {63, 2}, {64, 2}, {125, 2}, {126, 2}, {127, 3}, {190, 3}, {191, 4},
		{255, 5}, {256, 5}, {257, 5}, {3966, 62}, {3967, 63}, {3999, 63}, {4000, 63},
	} {
		for room := x.blocks - 1; room <= x.blocks+1; room++ {
			if room < 1 {
				continue
			}
			for _, left := range []int{0, 1} {
				image := zeros(2 + 2*room + left)
				for k := range image {
					image[k] = 0xee
				}
				d, r, q := begun(t, image)
				rec := bytes.Repeat([]byte{'y'}, x.n)
				e := r.Stage(rec)
				if room < x.blocks {
					if e != api.ErrRollFull {
						t.Errorf("%d bytes, room %d: Stage tells %d", x.n, room, e)
					}
					q.hold(t, d, r, x)
					continue
				}
				want := append([]byte{byte(x.n), byte(x.n >> 8)}, rec...)
				copy(image[128:], padded(want, 64*x.blocks))
				if e != api.OK || !bytes.Equal(d.Image(), image) || d.Ops() != x.blocks || d.Pending() != x.blocks {
					t.Errorf("%d bytes, room %d: Stage tells %d, and the device is\n%s", x.n, room, e, brief(d.Image()))
				}
				if r.Room() != room-x.blocks || r.Staged() != 1 || len(r.Records()) != 0 {
					t.Errorf("%d bytes: room %d, staged %d", x.n, r.Room(), r.Staged())
				}
			}
		}
	}
}

func TestStageOfTooMany(t *testing.T) { // P11.2
	for _, n := range []int{4001, 4002, 4096, 65536, 65537, 1 << 20} {
		for _, count := range []int{4, 4096} { // ErrRollForm comes ahead of ErrRollFull
			for _, c := range []call{stage(xs(n)), added(xs(n)), reset(xs(n)), reset("a", xs(n)), reset(xs(n), "a")} {
				d, r, q := begun(t, zeros(count))
				if e := c.onRoll(r); e != api.ErrRollForm {
					t.Errorf("%d bytes: %s tells %d", n, c.name, e)
				}
				q.hold(t, d, r, c)
			}
		}
	}
}

func TestStageBehindOthers(t *testing.T) { // P11.2: in order, in either area
	d, r, _ := ran(t, zeros(19), stage("a"), stage(xs(63)), seal(), stage("b"), stage(""))
	want := zeros(19)
	copy(want, headOf(1, 0, 3, 2))
	copy(want[64*2:], "\x01\x00a")
	copy(want[64*3:], "\x3f\x00"+xs(63))
	copy(want[64*5:], "\x01\x00b")
	if !bytes.Equal(d.Image(), want) || d.Ops() != 8 || d.Pending() != 2 {
		t.Errorf("in area 0: %d ops, %d pending\n%s", d.Ops(), d.Pending(), brief(d.Image()))
	}
	if e := r.Reset(rows("c")); e != api.OK {
		t.Fatalf("Reset tells %d", e)
	}
	r.Stage([]byte("d"))
	r.Append([]byte("e"))
	copy(want[64*1:], headOf(2, 1, 1, 1))
	copy(want, headOf(3, 1, 3, 3))
	copy(want[64*10:], "\x01\x00c")
	copy(want[64*11:], "\x01\x00d")
	copy(want[64*12:], "\x01\x00e")
	if !bytes.Equal(d.Image(), want) {
		t.Errorf("in area 1:\n%s", brief(d.Image()))
	}
}

func TestSealOfNothing(t *testing.T) { // P11.2
	for _, calls := range [][]call{nil, {added("a")}, {stage("a"), seal()}, {reset("b")}, {stage("a"), reset()}} {
		d, r, q := ran(t, zeros(9), calls...)
		if e := r.Seal(); e != api.OK {
			t.Errorf("%v: Seal tells %d", calls, e)
		}
		q.hold(t, d, r, calls)
	}
	image := with(zeros(9), 32, number8(1<<40-1)...)
	d, r, q := begun(t, image) // there is no number, but it needs none
	if e := r.Seal(); e != api.OK {
		t.Errorf("Seal tells %d", e)
	}
	q.hold(t, d, r, "no number")
}

func TestSeal(t *testing.T) { // P11.2
	d, r, _ := ran(t, zeros(9), stage("a"))
	d.Arm(0)
	if e := r.Seal(); e != api.ErrBlockDown || d.Pending() != 1 {
		t.Errorf("the first op is no flush: %d, %d pending", e, d.Pending())
	}
	for n := 1; n <= 3; n++ {
		d, r, _ := ran(t, zeros(9), stage("a"), stage("b"), stage("c"))
		if n < 3 {
			d, r, _ = ran(t, zeros(9), []call{stage("a"), stage("b")}[:n]...)
		}
		if e := r.Seal(); e != api.OK || d.Ops() != n+3 || d.Pending() != 0 {
			t.Errorf("Seal of %d tells %d, and has %d ops", n, e, d.Ops())
		}
		if b, _ := d.Read(0); !bytes.Equal(b, headOf(1, 0, uint32(n), uint32(n))) {
			t.Errorf("Seal of %d: the head is %x", n, b)
		}
		if !sameRows(r.Records(), rows("a", "b", "c")[:n]) || r.Staged() != 0 || r.Room() != 3-n {
			t.Errorf("Seal of %d: %q", n, r.Records())
		}
	}
}

func TestHeadsTakeTurns(t *testing.T) { // P11.2
	d, r, _ := begun(t, zeros(60))
	want := zeros(60)
	for n := 1; n <= 20; n++ {
		if n%7 == 0 {
			r.Reset(r.Records())
		} else {
			r.Append([]byte{byte(n)})
		}
		area := n / 7 % 2
		l := r.Records()
		for k, rec := range l {
			copy(want[64*(2+29*area+k):], stored(rec))
		}
		copy(want[64*((n-1)%2):], headOf(uint64(n), byte(area), uint32(len(l)), uint32(len(l))))
		if !bytes.Equal(d.Image(), want) {
			t.Fatalf("behind %d heads:\n%s", n, brief(d.Image()))
		}
	}
}

// marked is a head that does not hold, since it is not of zeros: its halves have these numbers.
func marked(front, back uint64) []byte {
	b := with(zeros(1), 0, number8(front)...)
	return with(with(b, 32, number8(back)...), 20, 1)
}

// someNumbers are numbers below 2^40, at it, and beyond.
func someNumbers() []uint64 {
	return []uint64{0, 1, 5, 6, 9, 1 << 32, 1<<40 - 3, 1<<40 - 2, 1<<40 - 1, 1 << 40, 1<<40 + 3, 1 << 63, 1<<64 - 1}
}

// nextOf is the number that comes behind these.
func nextOf(l ...uint64) uint64 {
	n := uint64(0)
	for _, m := range l {
		if m < 1<<40 {
			n = max(n, m)
		}
	}
	return n + 1
}

// headWritten has a Seal and a Reset write a head, of that number, into a block; or tell ErrRollFull, and do nothing.
func headWritten(t *testing.T, image []byte, at int, number uint64) {
	t.Helper()
	for _, c := range []call{seal(), reset(), reset("c", "d"), added("s")} {
		d, r, q := ran(t, image, stage("z"))
		_, next, want := q.does(c)
		e := c.onRoll(r)
		if (want == 111) != (number == 1<<40) || e != want {
			t.Fatalf("%v tells %d, want %d; the number is %d", c, e, want, number)
		}
		next.hold(t, d, r, c) // of Append, what is staged is so
		if e != api.OK {
			continue
		}
		now := d.Image()
		b, other := now[64*at:][:64], 1-at
		if !bytes.Equal(b[:8], number8(number)) || !bytes.Equal(b[32:40], number8(number)) {
			t.Fatalf("%v: head %d is %x, want number %d", c, at, b, number)
		}
		if !bytes.Equal(now[64*other:][:64], image[64*other:][:64]) {
			t.Fatalf("%v: head %d is changed", c, other)
		}
	}
}

func TestNumberOfAHead(t *testing.T) { // P11.2, P11.3: of one that has a head
	for own := range 2 {
		image := with(zeros(10), 64*own, headOf(5, 0, 1, 1)...)
		copy(image[128:], stored([]byte("a")))
		for _, front := range someNumbers() {
			for _, back := range someNumbers() {
				headWritten(t, with(image, 64*(1-own), marked(front, back)...), 1-own, nextOf(5, front, back))
			}
		}
	}
}

func TestNumberOfAFirstHead(t *testing.T) { // P11.2, P11.3: of one that has none
	few := []uint64{0, 7, 1<<40 - 2, 1<<40 - 1, 1 << 40}
	for n := range 5 * 5 * 5 * 5 {
		l := []uint64{few[n%5], few[n/5%5], few[n/25%5], few[n/125]}
		image := with(with(zeros(10), 0, marked(l[0], l[1])...), 64, marked(l[2], l[3])...)
		headWritten(t, image, 0, nextOf(l...))
	}
}

func TestLastNumbers(t *testing.T) { // P11.2, P11.3
	for own := range 2 {
		image := with(zeros(10), 64*own, headOf(1<<40-2, 0, 0, 0)...)
		headWritten(t, image, 1-own, 1<<40-1)
		d, r, q := ran(t, image, added("a"), stage("b"))
		for _, c := range []call{seal(), reset(), reset("c"), added("d"), seal(), added("e")} {
			q = c.on(t, d, r, q, "the last number")
		}
		if !sameRows(r.Records(), rows("a")) || r.Staged() != 3 {
			t.Errorf("%q, %d staged", r.Records(), r.Staged())
		}
	}
}

func TestNumberIsReadWhenItIsNeeded(t *testing.T) { // P11.2: what stands in the heads then
	d, r, _ := begun(t, zeros(10))
	r.Stage([]byte("a"))
	d.Write(1, marked(0, 70))
	if e := r.Seal(); e != api.OK {
		t.Fatalf("Seal tells %d", e)
	}
	if b, _ := d.Read(0); !bytes.Equal(b, headOf(71, 0, 1, 1)) {
		t.Errorf("the head is %x", b)
	}
}

func TestAppend(t *testing.T) { // P11.2: as Stage, and then Seal
	for _, x := range []struct {
		ahead []call
		rec   string
		e     api.Errno
		l     []string
	}{
		{nil, "", 0, []string{""}},
		{nil, "a", 0, []string{"a"}},
		{[]call{added("a")}, xs(126), 0, []string{"a", xs(126)}},
		{[]call{added("a")}, xs(127), 111, []string{"a"}},
		{[]call{stage("a")}, "b", 0, []string{"a", "b"}},
		{[]call{stage("a")}, xs(127), 111, nil}, // what was staged is not sealed
		{[]call{stage("a")}, xs(4001), 110, nil},
		{[]call{reset("a")}, "b", 0, []string{"a", "b"}},
	} {
		d, r, q := ran(t, zeros(9), x.ahead...)
		c := added(x.rec)
		if _, _, e := q.does(c); e != x.e {
			t.Fatal("the test is wrong")
		}
		c.on(t, d, r, q, x.ahead)
		if !sameRows(r.Records(), rows(x.l...)) {
			t.Errorf("%v, %v: %q, want %q", x.ahead, c, r.Records(), x.l)
		}
	}
}

func TestReset(t *testing.T) { // P11.3
	for _, ahead := range [][]call{nil, {added("a")}, {added("a"), added("b"), added("b")}, {stage("s")}, {added("a"), stage(xs(63))}, {reset("r")}, {reset("r"), stage("s")}} {
		for _, x := range []struct {
			l []string
			e api.Errno
		}{
			{nil, 0},
			{[]string{""}, 0},
			{[]string{"c"}, 0},
			{[]string{"c", "d"}, 0},
			{[]string{"", "", ""}, 0},
			{[]string{xs(63), "c"}, 0},
			{[]string{xs(190)}, 0},
			{[]string{xs(191)}, 111},
			{[]string{"", "", "", ""}, 111},
			{[]string{xs(63), xs(63)}, 111},
			{[]string{xs(4000)}, 111},
			{[]string{"", "", "", "", xs(4001)}, 110},
			{[]string{xs(4001)}, 110},
		} {
			d, r, q := ran(t, zeros(9), ahead...)
			was, ops := d.Image(), d.Ops()
			c := reset(x.l...)
			next := c.on(t, d, r, q, ahead)
			if _, _, e := q.does(c); e != x.e {
				t.Errorf("%v, %v tells %d", ahead, c, e)
			}
			if x.e != 0 {
				q.hold(t, d, r, c) // nothing is done
				continue
			}
			if !sameRows(r.Records(), rows(x.l...)) || r.Staged() != 0 || d.Pending() != 0 || d.Ops() != ops+places(rows(x.l...))+3 {
				t.Errorf("%v, %v: %q, %d staged, %d ops", ahead, c, r.Records(), r.Staged(), d.Ops()-ops)
			}
			old := 64 * (2 + 3*q.area)
			if !bytes.Equal(d.Image()[old:][:192], was[old:][:192]) {
				t.Errorf("%v, %v: the area that it had is changed", ahead, c)
			}
			next.hold(t, d, opened(t, d), "opened again")
		}
	}
}

func TestResetLeavesOldBlocks(t *testing.T) { // P11.3: just the blocks of the records are written
	d, r, _ := ran(t, zeros(8), reset("a", "b", "c"), reset("d", "e"), reset(xs(63)))
	want := zeros(8)
	copy(want, headOf(3, 1, 2, 1))
	copy(want[64:], headOf(2, 0, 2, 2))
	copy(want[64*2:], "\x01\x00d")
	copy(want[64*3:], "\x01\x00e")
	copy(want[64*5:], "\x3f\x00"+xs(63))
	copy(want[64*7:], "\x01\x00c")
	if !bytes.Equal(d.Image(), want) {
		t.Errorf("the device is\n%s", brief(d.Image()))
	}
	r.Append([]byte("f"))
	copy(want[64*7:], stored([]byte("f")))
	copy(want[64:], headOf(4, 1, 3, 2))
	if !bytes.Equal(d.Image(), want) {
		t.Errorf("the device is\n%s", brief(d.Image()))
	}
}

func TestALargeRoll(t *testing.T) { // P11.2, P11.3: as many as a device can have
	d, r, q := begun(t, zeros(4096))
	l := make([]string, 2047)
	for k := range l {
		l[k] = string([]byte{byte(k), byte(k >> 8), 1})
	}
	q = reset(l...).on(t, d, r, q, "large")
	q = stage("").on(t, d, r, q, "full")
	q = reset(append(l, "")...).on(t, d, r, q, "one too many")
	q = reset(l[1:]...).on(t, d, r, q, "one fewer")
	q = added("").on(t, d, r, q, "the last one")
	q.hold(t, d, opened(t, d), "opened again")
	if len(r.Records()) != 2047 || r.Room() != 0 {
		t.Errorf("%d records, room %d", len(r.Records()), r.Room())
	}
}

func TestExample(t *testing.T) { // the chapter's
	for form := range 4 {
		d, _, _ := ran(t, zeros(20), added("a"), stage("b"))
		d.Crash([]int{form})
		if l := opened(t, d).Records(); !sameRows(l, rows("a")) {
			t.Errorf("form %d: %q", form, l)
		}
	}
}

func TestTwoRollsOfTwoDevices(t *testing.T) { // R6
	d, r, q := ran(t, zeros(9), added("a"), stage("b"))
	c := d.Copy()
	s := opened(t, c)
	if e := s.Append([]byte("z")); e != api.OK {
		t.Fatalf("Append tells %d", e)
	}
	q.hold(t, d, r, "the first one")
	if !sameRows(s.Records(), rows("a", "z")) {
		t.Errorf("the second one has %q", s.Records())
	}
	seal().on(t, d, r, q, "the first one")
	if !sameRows(s.Records(), rows("a", "z")) || !sameRows(opened(t, c).Records(), rows("a", "z")) {
		t.Errorf("the second one has %q", s.Records())
	}
	if e := opened(t, block.Of(d.Image())).Append([]byte("q")); e != api.OK {
		t.Errorf("Append tells %d", e)
	}
}
