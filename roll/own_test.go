package roll_test

import (
	"bytes"
	"math/rand"
	"testing"

	"quiltwork/api"
	"quiltwork/block"
)

// overwrite writes into bytes, and into their room.
func overwrite(b []byte) {
	b = b[:cap(b)]
	for k := range b {
		b[k] = '!'
	}
}

// overwriteRows writes into all of some records, and then into the row of these.
func overwriteRows(l [][]byte) {
	for _, b := range l {
		overwrite(b)
	}
	l = l[:cap(l)]
	for k := range l {
		l[k] = []byte("?")
	}
}

// roomy is bytes with room behind them, where a careless append would write.
func roomy(s string) []byte {
	return append(make([]byte, 0, len(s)+200), s...)
}

// untouched tells whether bytes, and the room of zeros behind them, are as roomy made them.
func untouched(b []byte, s string) bool {
	return len(b) == len(s) && bytes.Equal(b[:cap(b)], padded([]byte(s), cap(b)))
}

func TestStageKeepsNothing(t *testing.T) { // R5, R6
	for _, s := range []string{"", "a", xs(62), xs(63), xs(200), xs(4001)} {
		for _, name := range []string{"Stage", "Append"} {
			d, r, q := begun(t, zeros(30))
			rec := roomy(s)
			c := call{name, [][]byte{rec}}
			_, next, _ := q.does(c)
			c.onRoll(r)
			if !untouched(rec, s) {
				t.Errorf("%v: what is handed in is changed", c)
			}
			overwrite(rec)
			next.hold(t, d, r, c)
			next = seal().on(t, d, r, next, c)
			added("z").on(t, d, r, next, c)
		}
	}
}

func TestResetKeepsNothing(t *testing.T) { // R5, R6
	for _, l := range [][]string{nil, {""}, {"a"}, {"a", xs(63), ""}, {"a", xs(4001)}, {xs(900), "a"}} {
		d, r, q := ran(t, zeros(30), added("z"))
		given := make([][]byte, 0, 20)
		for _, s := range l {
			given = append(given, roomy(s))
		}
		_, next, _ := q.does(reset(l...))
		r.Reset(given)
		for k, s := range l {
			if !untouched(given[k], s) {
				t.Errorf("Reset %.20q: record %d is changed", l, k)
			}
		}
		if len(given) != len(l) || given[:len(l)+1][len(l)] != nil {
			t.Errorf("Reset %.20q: the row is changed", l)
		}
		overwriteRows(given)
		next.hold(t, d, r, "overwritten")
		added("y").on(t, d, r, next, "overwritten")
	}
}

func TestRecordsAreTheCallersOwn(t *testing.T) { // R6
	d, r, q := ran(t, zeros(40), added("a"), added(""), added(xs(63)), stage("s"), stage(xs(70)))
	for range 2 {
		l, m := r.Records(), r.Records()
		for k := range l {
			overwrite(l[k]) // none of these shares anything with another
			for n := range l {
				if n > k && !bytes.Equal(l[n], m[n]) {
					t.Errorf("record %d is changed with record %d", n, k)
				}
			}
		}
		overwriteRows(l)
		if !sameRows(m, rows("a", "", xs(63))) {
			t.Errorf("what was told is shared: %q", m)
		}
		q.hold(t, d, r, "overwritten")
	}
	l := r.Records()
	q = seal().on(t, d, r, q, "told ahead")
	q = added("b").on(t, d, r, q, "told ahead")
	q = reset("c", "d").on(t, d, r, q, "told ahead")
	if !sameRows(l, rows("a", "", xs(63))) {
		t.Errorf("what was told changes with the roll: %q", l)
	}
	overwriteRows(l)
	q.hold(t, d, r, "overwritten")
}

func TestRecordsThatWereOpened(t *testing.T) { // R6
	image := with(held(), 64, headOf(5, 1, 3, 3)...)
	d, r, q := begun(t, image)
	overwriteRows(r.Records())
	q.hold(t, d, r, "overwritten")
	d.Write(5, []byte("\x02\x00!!")) // what is written into a device behind a roll changes no record
	if !sameRows(r.Records(), rows("cd", "ef", "")) {
		t.Errorf("the records are %q", r.Records())
	}
}

func TestResetToItsOwnRecords(t *testing.T) { // R5, R6
	d, r, q := ran(t, zeros(40), added("a"), added(xs(63)), added("b"))
	l := r.Records()
	q = reset("a", xs(63), "b").on(t, d, r, q, "first")
	_, next, _ := q.does(call{"Reset", l[1:]})
	if e := r.Reset(l[1:]); e != api.OK {
		t.Fatalf("Reset tells %d", e)
	}
	next.hold(t, d, r, "its own")
	overwriteRows(l)
	next.hold(t, d, r, "its own")
}

func TestTheDeviceIsKeptItself(t *testing.T) { // R6
	d := block.New(9)
	r := opened(t, d)
	d.Arm(0)
	d.Flush()
	if e := r.Stage(nil); e != api.ErrBlockDown {
		t.Errorf("Stage tells %d", e)
	}
}

func TestNoneAndEmpty(t *testing.T) { // R3
	d, r, _ := begun(t, zeros(12))
	c, s, _ := begun(t, zeros(12))
	for _, e := range []api.Errno{
		r.Append(nil), s.Append([]byte{}),
		r.Stage(nil), s.Stage([]byte{}),
		r.Reset(nil), s.Reset([][]byte{}),
		r.Reset([][]byte{nil}), s.Reset([][]byte{{}}),
	} {
		if e != api.OK {
			t.Errorf("it tells %d", e)
		}
	}
	if !bytes.Equal(d.Image(), c.Image()) || len(r.Records()) != 1 || len(s.Records()) != 1 {
		t.Errorf("they are not the same:\n%s\n%s", brief(d.Image()), brief(c.Image()))
	}
}

func TestTheSameAlways(t *testing.T) { // R7
	run := func() []byte {
		dice := rand.New(rand.NewSource(7))
		d := block.New(30)
		r := opened(t, d)
		var told []byte
		for range 300 {
			told = append(told, byte(randomCall(dice).onRoll(r)), byte(r.Room()), byte(r.Staged()))
			told = append(told, bytes.Join(r.Records(), []byte("|"))...)
		}
		return append(told, d.Image()...)
	}
	want := run()
	for range 3 {
		if !bytes.Equal(run(), want) {
			t.Error("the same calls tell other things")
		}
	}
}
