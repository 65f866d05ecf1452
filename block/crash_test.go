package block_test

import (
	"bytes"
	"math"
	"math/rand"
	"testing"

	"quiltwork/api"
	"quiltwork/block"
)

func TestArm(t *testing.T) { // P10.3
	for _, x := range []struct {
		armed []int
		want  int // how many ops tell OK, of ten
	}{
		{nil, 10},
		{[]int{0}, 0},
		{[]int{1}, 1},
		{[]int{2}, 2},
		{[]int{9}, 9},
		{[]int{10}, 10},
		{[]int{math.MaxInt}, 10},
		{[]int{-1}, 10},
		{[]int{math.MinInt}, 10},
		{[]int{0, -1}, 10},
		{[]int{3, math.MinInt}, 10},
		{[]int{0, 4}, 4},
		{[]int{4, 0}, 0},
		{[]int{-1, 3}, 3},
		{[]int{math.MaxInt, 1}, 1},
		{[]int{1, math.MaxInt}, 10},
		{[]int{2, 2}, 2},
	} {
		for mask := range 4 { // writes and flushes
			d := block.New(1)
			for _, n := range x.armed {
				d.Arm(n)
			}
			told := 0
			for n := range 10 {
				e := api.OK
				if mask>>(n%2)&1 == 1 {
					e = d.Write(0, []byte{1})
				} else {
					e = d.Flush()
				}
				if e == api.OK {
					told++
				} else if e != api.ErrBlockDown || told > x.want {
					t.Fatalf("armed %v: op %d tells %d", x.armed, n, e)
				}
				if d.Down() != (e != api.OK) {
					t.Fatalf("armed %v: op %d tells %d, and down is %v", x.armed, n, e, d.Down())
				}
			}
			if told != x.want || d.Ops() != min(10, x.want+1) {
				t.Errorf("armed %v: %d tell OK, and %d are ops; want %d", x.armed, told, d.Ops(), x.want)
			}
		}
	}
}

func TestArmedInBetween(t *testing.T) { // P10.3: the n-th from now on
	d := block.New(1)
	d.Arm(5)
	wrote(t, d, 0, full(1))
	wrote(t, d, 0, full(2))
	d.Arm(1)
	flushed(t, d)
	if e := d.Flush(); e != api.ErrBlockDown {
		t.Errorf("the second op from now on tells %d", e)
	}
	d.Arm(-1) // that it isn't armed any more doesn't bring it up
	counts(t, d, 0, 4, true)
	if e := d.Flush(); e != api.ErrBlockDown {
		t.Errorf("Flush of one that is down tells %d", e)
	}
	counts(t, d, 0, 4, true)
}

func TestNoOps(t *testing.T) { // P10.2, P10.3: what is no op is not counted ahead of the one that brings it down
	d := block.New(1)
	d.Arm(1)
	for range 3 {
		if e := d.Write(1, nil); e != api.ErrBlockAt {
			t.Errorf("Write 1 tells %d", e)
		}
		if e := d.Write(0, make([]byte, 65)); e != api.ErrBlockAt {
			t.Errorf("Write of 65 bytes tells %d", e)
		}
		d.Read(0)
		d.Read(7)
		d.Image()
		d.Copy()
		d.Pending()
	}
	counts(t, d, 0, 0, false)
	wrote(t, d, 0, nil)
	if e := d.Write(-1, nil); e != api.ErrBlockAt { // it is armed for the next op, and this is none
		t.Errorf("Write -1 tells %d", e)
	}
	counts(t, d, 1, 1, false)
	if e := d.Write(0, full(1)); e != api.ErrBlockDown {
		t.Errorf("the op that brings it down tells %d", e)
	}
	counts(t, d, 2, 2, true)
}

// isDown holds all that a device that is down tells against what it should.
func isDown(t *testing.T, d *block.Dev, image []byte, pending, ops int) {
	t.Helper()
	for _, k := range []int{0, -1, 1, 2, math.MinInt, math.MaxInt} {
		for _, b := range [][]byte{nil, full(77), make([]byte, 65)} {
			if e := d.Write(k, b); e != api.ErrBlockDown {
				t.Errorf("Write %d of %d bytes tells %d", k, len(b), e)
			}
		}
		if b, e := d.Read(k); e != api.ErrBlockDown || len(b) != 0 {
			t.Errorf("Read %d tells %v, %d", k, brief(b), e)
		}
		if e := d.Flush(); e != api.ErrBlockDown {
			t.Errorf("Flush tells %d", e)
		}
	}
	counts(t, d, pending, ops, true)
	if !bytes.Equal(d.Image(), image) {
		t.Errorf("the image is %v, want %v", brief(d.Image()), brief(image))
	}
}

func TestDownAtAWrite(t *testing.T) { // P10.3
	d := block.New(2)
	d.Arm(1)
	wrote(t, d, 0, full(1))
	if e := d.Write(1, full(2)); e != api.ErrBlockDown {
		t.Errorf("the write that brings it down tells %d", e)
	}
	isDown(t, d, append(full(1), full(2)...), 2, 2)
	d.Crash([]int{block.Lost, block.Kept}) // the write stands in the row
	has(t, d, 0, full(0))
	has(t, d, 1, full(2))
	counts(t, d, 0, 2, false)
}

func TestDownAtAFlush(t *testing.T) { // P10.3
	d := block.New(2)
	wrote(t, d, 0, full(1))
	d.Arm(0)
	if e := d.Flush(); e != api.ErrBlockDown {
		t.Errorf("the flush that brings it down tells %d", e)
	}
	isDown(t, d, append(full(1), full(0)...), 1, 2)
	d.Crash(nil) // the row is as it was
	has(t, d, 0, full(0))
	counts(t, d, 0, 2, false)
}

// Of a block that had 1, and writes of 2, 3 and 4 in a row.
func TestFormsOfWrites(t *testing.T) { // P10.3
	for _, x := range []struct {
		writes int
		forms  []int
		want   [2]byte
	}{
		{0, nil, [2]byte{1, 1}},
		{0, []int{1}, [2]byte{1, 1}},
		{1, nil, [2]byte{1, 1}},
		{1, []int{}, [2]byte{1, 1}},
		{1, []int{0}, [2]byte{1, 1}},
		{1, []int{1}, [2]byte{2, 2}},
		{1, []int{2}, [2]byte{2, 1}},
		{1, []int{3}, [2]byte{1, 2}},
		{1, []int{4}, [2]byte{1, 1}},
		{1, []int{5}, [2]byte{2, 2}},
		{1, []int{6}, [2]byte{2, 1}},
		{1, []int{7}, [2]byte{1, 2}},
		{1, []int{math.MaxInt}, [2]byte{1, 2}},
		{1, []int{math.MaxInt - 1}, [2]byte{2, 1}},
		{1, []int{-1}, [2]byte{1, 1}},
		{1, []int{-2}, [2]byte{1, 1}},
		{1, []int{-3}, [2]byte{1, 1}},
		{1, []int{-4}, [2]byte{1, 1}},
		{1, []int{-7}, [2]byte{1, 1}},
		{1, []int{math.MinInt}, [2]byte{1, 1}},
		{1, []int{math.MinInt + 1}, [2]byte{1, 1}},
		{1, []int{0, 1, 1}, [2]byte{1, 1}}, // more than the writes
		{1, []int{2, 1}, [2]byte{2, 1}},
		{2, nil, [2]byte{1, 1}},
		{2, []int{0}, [2]byte{1, 1}}, // fewer than the writes
		{2, []int{1}, [2]byte{3, 3}},
		{2, []int{2}, [2]byte{3, 1}},
		{2, []int{3}, [2]byte{1, 3}},
		{2, []int{0, 1}, [2]byte{3, 3}},
		{2, []int{1, 0}, [2]byte{2, 2}},
		{2, []int{0, 2}, [2]byte{3, 1}},
		{2, []int{0, 3}, [2]byte{1, 3}},
		{2, []int{1, 2}, [2]byte{3, 2}},
		{2, []int{1, 3}, [2]byte{2, 3}},
		{2, []int{2, 0}, [2]byte{2, 1}},
		{2, []int{2, 1}, [2]byte{3, 3}},
		{2, []int{2, 3}, [2]byte{2, 3}},
		{2, []int{3, 2}, [2]byte{3, 2}},
		{2, []int{3, 0}, [2]byte{1, 2}},
		{2, []int{5, -7}, [2]byte{2, 2}},
		{2, []int{-1, 6}, [2]byte{3, 1}},
		{2, []int{1, 0, 0, 0, 0}, [2]byte{2, 2}},
		{3, []int{1}, [2]byte{4, 4}},
		{3, []int{2, 3}, [2]byte{4, 3}}, // 2, 3, 2
		{3, []int{3, 2}, [2]byte{3, 4}}, // 3, 2, 3
		{3, []int{1, 0}, [2]byte{4, 4}},
		{3, []int{0, 1}, [2]byte{3, 3}},
		{3, []int{1, 0, 0}, [2]byte{2, 2}},
		{3, []int{1, 2, 0}, [2]byte{3, 2}},
		{3, []int{1, 0, 3}, [2]byte{2, 4}},
		{3, []int{1, 0, 3, 1}, [2]byte{2, 4}},
		{3, []int{2, 0, 3}, [2]byte{2, 4}},
	} {
		d := block.New(1)
		wrote(t, d, 0, full(1))
		flushed(t, d)
		for n := range x.writes {
			wrote(t, d, 0, full(byte(2+n)))
		}
		d.Crash(x.forms)
		want := halved(x.want[0], x.want[1])
		if b, e := d.Read(0); e != api.OK || !bytes.Equal(b, want) {
			t.Errorf("%d writes, forms %v: the block is %v, %d; want %v", x.writes, x.forms, brief(b), e, brief(want))
		}
		counts(t, d, 0, 2+x.writes, false)
		d.Crash([]int{block.Back}) // the row is empty: a second crash finds nothing
		has(t, d, 0, want)
	}
}

func TestFormsGoByTheRow(t *testing.T) { // P10.3: the k-th write, of whatever block
	d := block.New(4)
	for k, x := range []byte{1, 2, 3, 4} {
		wrote(t, d, k, full(x))
	}
	flushed(t, d)
	for _, k := range []int{2, 0, 2, 3, 1, 0} {
		wrote(t, d, k, full(byte(10+d.Pending())))
	}
	d.Crash([]int{block.Kept, block.Front, block.Back, block.Lost, block.Kept})
	// 2: kept 10, back 12. 0: front 11, kept 15. 3: lost. 1: kept 14.
	has(t, d, 0, full(15))
	has(t, d, 1, full(14))
	has(t, d, 2, halved(10, 12))
	has(t, d, 3, full(4))
}

func TestAShortWriteIsTorn(t *testing.T) { // P10.3: the zeros behind its bytes are its own as well
	for _, x := range []struct {
		form int
		want []byte
	}{
		{block.Kept, padded([]byte{2}, 64)},
		{block.Front, append(padded([]byte{2}, 32), full(1)[:32]...)},
		{block.Back, halved(1, 0)},
		{block.Lost, full(1)},
	} {
		d := block.Of(full(1))
		wrote(t, d, 0, []byte{2})
		d.Crash([]int{x.form})
		has(t, d, 0, x.want)
	}
}

func TestExample(t *testing.T) { // the chapter's
	d := block.New(1)
	wrote(t, d, 0, []byte("a"))
	d.Crash([]int{block.Back})
	has(t, d, 0, full(0))
}

func TestCrashLeavesNothingArmed(t *testing.T) { // P10.3
	for n := range 3 {
		d := block.New(1)
		d.Arm(n)
		d.Crash([]int{block.Kept})
		for range 5 {
			wrote(t, d, 0, full(1))
			flushed(t, d)
		}
		counts(t, d, 0, 10, false)
	}
	d := block.New(1) // the same of one that went down, and was armed again behind that
	d.Arm(0)
	d.Write(0, full(1))
	d.Arm(1)
	isDown(t, d, full(1), 1, 1)
	d.Crash([]int{block.Kept})
	counts(t, d, 0, 1, false)
	has(t, d, 0, full(1))
	for range 5 {
		flushed(t, d)
	}
	counts(t, d, 0, 6, false)
	d.Arm(0) // and it can be armed again
	if e := d.Flush(); e != api.ErrBlockDown {
		t.Errorf("Flush tells %d", e)
	}
}

func TestCrashOfOneThatIsUp(t *testing.T) { // P10.3
	d := block.New(2)
	d.Crash(nil)
	d.Crash([]int{1, 2, 3})
	counts(t, d, 0, 0, false)
	if !bytes.Equal(d.Image(), make([]byte, 128)) {
		t.Error("a crash of a new one changed it")
	}
	wrote(t, d, 1, full(1))
	d.Crash([]int{block.Front})
	has(t, d, 1, halved(1, 0))
	wrote(t, d, 1, full(2)) // what a crash left is as it was flushed
	d.Crash([]int{block.Back})
	has(t, d, 1, halved(1, 2))
	wrote(t, d, 1, full(3))
	d.Crash(nil)
	has(t, d, 1, halved(1, 2))
	counts(t, d, 0, 3, false)
}

func TestAfterACrashAllIsKept(t *testing.T) { // P10.4
	d := block.New(3)
	for k := range 3 {
		wrote(t, d, k, full(byte(1+k)))
	}
	flushed(t, d)
	wrote(t, d, 1, full(9))
	for _, forms := range [][]int{nil, {0}, {1}, {2}, {3}, {3, 2, 1, 0}} {
		c := d.Copy()
		c.Crash(forms)
		has(t, c, 0, full(1))
		has(t, c, 2, full(3))
	}
}

// may is what each half of a block may be behind a crash.
type may struct {
	halves [2][][]byte
}

func (m *may) add(b []byte) {
	b = padded(b, 64)
	m.halves[0] = append(m.halves[0], b[:32])
	m.halves[1] = append(m.halves[1], b[32:])
}

func (m *may) be(b []byte) bool {
	is := [2]bool{}
	for half := range is {
		for _, c := range m.halves[half] {
			is[half] = is[half] || bytes.Equal(c, b[32*half:32*half+32])
		}
	}
	return is[0] && is[1]
}

func TestWhatMayBeBehindACrash(t *testing.T) { // P10.4
	dice := rand.New(rand.NewSource(104))
	for range 3000 {
		d := block.New(1 + dice.Intn(5))
		for range dice.Intn(6) {
			d.Write(dice.Intn(d.Count()), randomBytes(dice))
		}
		d.Flush()
		all := make([]may, d.Count())
		for k := range all {
			b, _ := d.Read(k)
			all[k].add(b)
		}
		d.Arm(dice.Intn(12))
		for range dice.Intn(12) {
			k, b := dice.Intn(d.Count()), randomBytes(dice)
			if len(b) <= 64 && !d.Down() { // also the one that brings it down
				all[k].add(b)
			}
			d.Write(k, b)
		}
		d.Crash(randomForms(dice))
		for k := range all {
			if b, e := d.Read(k); e != api.OK || !all[k].be(b) {
				t.Fatalf("block %d is %v, %d behind a crash", k, brief(b), e)
			}
		}
	}
}
