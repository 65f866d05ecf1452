package block_test

import (
	"bytes"
	"math"
	"testing"

	"quiltwork/api"
	"quiltwork/block"
)

// full is a block of x.
func full(x byte) []byte {
	return bytes.Repeat([]byte{x}, 64)
}

// halved is a block whose halves are of x and of y.
func halved(x, y byte) []byte {
	return append(bytes.Repeat([]byte{x}, 32), bytes.Repeat([]byte{y}, 32)...)
}

// has holds what Read tells of a block against what it should have.
func has(t *testing.T, d *block.Dev, k int, want []byte) {
	t.Helper()
	if b, e := d.Read(k); e != api.OK || !bytes.Equal(b, want) {
		t.Errorf("block %d is %v, %d; want %v", k, brief(b), e, brief(want))
	}
}

// counts holds what a device counts against what it should.
func counts(t *testing.T, d *block.Dev, pending, ops int, down bool) {
	t.Helper()
	if d.Pending() != pending || d.Ops() != ops || d.Down() != down {
		t.Errorf("pending %d, ops %d, down %v; want %d, %d, %v", d.Pending(), d.Ops(), d.Down(), pending, ops, down)
	}
}

// wrote has a device take a write that may be.
func wrote(t *testing.T, d *block.Dev, k int, b []byte) {
	t.Helper()
	if e := d.Write(k, b); e != api.OK {
		t.Fatalf("Write %d tells %d", k, e)
	}
}

func flushed(t *testing.T, d *block.Dev) {
	t.Helper()
	if e := d.Flush(); e != api.OK {
		t.Fatalf("Flush tells %d", e)
	}
}

func TestForms(t *testing.T) {
	if block.Lost != 0 || block.Kept != 1 || block.Front != 2 || block.Back != 3 {
		t.Error("the forms are not 0 to 3")
	}
}

func TestNew(t *testing.T) { // P10.1
	for _, x := range []struct{ count, want int }{
		{math.MinInt, 1}, {-4096, 1}, {-1, 1}, {0, 1}, {1, 1}, {2, 2}, {63, 63}, {4095, 4095},
		{4096, 4096}, {4097, 4096}, {1 << 40, 4096}, {math.MaxInt, 4096},
	} {
		d := block.New(x.count)
		if d.Count() != x.want {
			t.Errorf("New(%d) has %d blocks, want %d", x.count, d.Count(), x.want)
		}
		if !bytes.Equal(d.Image(), make([]byte, 64*x.want)) {
			t.Errorf("New(%d) is not of zeros", x.count)
		}
		has(t, d, 0, full(0))
		has(t, d, x.want-1, full(0))
		counts(t, d, 0, 0, false)
		if e := d.Write(x.want, nil); e != api.ErrBlockAt {
			t.Errorf("New(%d): a write behind the last block tells %d", x.count, e)
		}
		wrote(t, d, x.want-1, full(1))
		flushed(t, d) // nothing is armed
		counts(t, d, 0, 2, false)
	}
}

func TestOf(t *testing.T) { // P10.1
	const most = 64 * 4096
	for _, x := range []struct{ size, want int }{
		{0, 1}, {1, 1}, {32, 1}, {63, 1}, {64, 1}, {65, 2}, {127, 2}, {128, 2}, {129, 3}, {640, 10},
		{most - 64, 4095}, {most - 63, 4096}, {most - 1, 4096}, {most, 4096}, {most + 1, 4096}, {most + 64, 4096}, {2*most + 7, 4096},
	} {
		image := make([]byte, x.size)
		for k := range image {
			image[k] = byte(1 + k%251)
		}
		want := append(bytes.Clone(image), make([]byte, 64)...)
		if len(want) < 64*x.want {
			t.Fatal("the test is wrong")
		}
		want = want[:64*x.want]
		d := block.Of(image)
		if d.Count() != x.want || !bytes.Equal(d.Image(), want) {
			t.Errorf("Of %d bytes has %d blocks, want %d; or not their bytes", x.size, d.Count(), x.want)
			continue
		}
		has(t, d, 0, want[:64])
		has(t, d, x.want-1, want[len(want)-64:])
		counts(t, d, 0, 0, false)
		flushed(t, d) // nothing is armed
		d.Crash(nil)
		if !bytes.Equal(d.Image(), want) {
			t.Errorf("Of %d bytes is not kept in a crash", x.size)
		}
	}
	if d := block.Of(nil); d.Count() != 1 || !bytes.Equal(d.Image(), full(0)) {
		t.Error("Of nil is not one block of zeros")
	}
}

func TestImage(t *testing.T) { // P10.1
	d := block.New(3)
	wrote(t, d, 2, full(3))
	flushed(t, d)
	wrote(t, d, 0, []byte{1})
	want := bytes.Join([][]byte{padded([]byte{1}, 64), full(0), full(3)}, nil)
	if !bytes.Equal(d.Image(), want) {
		t.Errorf("the image is %v", brief(d.Image()))
	}
	d.Arm(0)
	d.Write(1, full(2))
	want = bytes.Join([][]byte{padded([]byte{1}, 64), full(2), full(3)}, nil)
	if !d.Down() || !bytes.Equal(d.Image(), want) {
		t.Errorf("the image of one that is down is %v", brief(d.Image()))
	}
	e := block.Of(d.Image()) // it has the bytes alone
	counts(t, e, 0, 0, false)
	e.Crash([]int{block.Lost})
	if e.Count() != 3 || !bytes.Equal(e.Image(), want) {
		t.Errorf("what is of an image is %v", brief(e.Image()))
	}
	counts(t, d, 2, 4, true)
}

func TestWriteAndRead(t *testing.T) { // P10.2
	d := block.New(3)
	pending := 0
	for _, x := range []struct {
		k    int
		b    []byte
		e    api.Errno
		want []byte
	}{
		{0, full(1), 0, full(1)},
		{0, nil, 0, full(0)},
		{0, full(2), 0, full(2)},
		{0, []byte{}, 0, full(0)},
		{0, full(3), 0, full(3)},
		{0, []byte{4}, 0, padded([]byte{4}, 64)},
		{0, full(5)[:63], 0, padded(full(5)[:63], 64)},
		{2, full(6)[:33], 0, padded(full(6)[:33], 64)},
		{2, []byte{0, 0, 7}, 0, padded([]byte{0, 0, 7}, 64)},
		{1, full(255), 0, full(255)},
		{-1, full(8), 101, nil},
		{-1, nil, 101, nil},
		{math.MinInt, full(8), 101, nil},
		{3, full(8), 101, nil},
		{3, nil, 101, nil},
		{64, nil, 101, nil},
		{math.MaxInt, full(8), 101, nil},
		{0, append(full(8), 8), 101, padded(full(5)[:63], 64)},
		{0, make([]byte, 65), 101, padded(full(5)[:63], 64)},
		{1, make([]byte, 1000), 101, full(255)},
		{3, make([]byte, 65), 101, nil},
	} {
		if e := d.Write(x.k, x.b); e != x.e {
			t.Errorf("Write %d %v tells %d, want %d", x.k, brief(x.b), e, x.e)
		}
		if x.e == 0 {
			pending++
		}
		counts(t, d, pending, pending, false)
		if x.want != nil {
			has(t, d, x.k, x.want)
		} else if b, e := d.Read(x.k); e != 101 || len(b) != 0 {
			t.Errorf("Read %d tells %v, %d", x.k, b, e)
		}
		counts(t, d, pending, pending, false)
	}
	if want := bytes.Join([][]byte{padded(full(5)[:63], 64), full(255), padded([]byte{0, 0, 7}, 64)}, nil); !bytes.Equal(d.Image(), want) {
		t.Errorf("the image is %v, want %v", brief(d.Image()), brief(want))
	}
}

func TestReadBetweenWrites(t *testing.T) { // P10.2
	d := block.New(2)
	wrote(t, d, 1, full(1))
	has(t, d, 1, full(1))
	wrote(t, d, 1, []byte{2, 3})
	has(t, d, 1, padded([]byte{2, 3}, 64))
	has(t, d, 0, full(0))
	counts(t, d, 2, 2, false)
}

func TestLastBlock(t *testing.T) { // P10.2
	d := block.New(4096)
	wrote(t, d, 4095, full(1))
	has(t, d, 4095, full(1))
	has(t, d, 4094, full(0))
	if e := d.Write(4096, nil); e != api.ErrBlockAt {
		t.Errorf("Write 4096 tells %d", e)
	}
	if _, e := d.Read(4096); e != api.ErrBlockAt {
		t.Errorf("Read 4096 tells %d", e)
	}
}

func TestFlush(t *testing.T) { // P10.2
	d := block.New(2)
	flushed(t, d)
	counts(t, d, 0, 1, false)
	wrote(t, d, 0, full(1))
	wrote(t, d, 1, full(2))
	wrote(t, d, 0, full(3))
	counts(t, d, 3, 4, false)
	flushed(t, d)
	counts(t, d, 0, 5, false)
	flushed(t, d)
	counts(t, d, 0, 6, false)
	has(t, d, 0, full(3))
	has(t, d, 1, full(2))
	d.Crash([]int{block.Lost})
	has(t, d, 0, full(3))
	has(t, d, 1, full(2))
	counts(t, d, 0, 6, false)
}

func TestCopy(t *testing.T) { // P10.1
	d := block.New(2)
	wrote(t, d, 0, full(1))
	flushed(t, d)
	wrote(t, d, 0, full(2))
	wrote(t, d, 1, full(3))
	d.Arm(1)
	c := d.Copy()
	counts(t, c, 2, 4, false)

	wrote(t, c, 0, full(4)) // neither's blocks, row and ops are the other's
	counts(t, c, 3, 5, false)
	counts(t, d, 2, 4, false)
	has(t, d, 0, full(2))
	wrote(t, d, 1, full(5))
	has(t, c, 1, full(3))

	if e := c.Flush(); e != api.ErrBlockDown { // a copy is armed as well, and goes down alone
		t.Errorf("the copy isn't armed: Flush tells %d", e)
	}
	counts(t, c, 3, 6, true)
	counts(t, d, 3, 5, false)
	if e := d.Write(0, full(6)); e != api.ErrBlockDown {
		t.Errorf("the one that was copied isn't armed any more: Write tells %d", e)
	}
	counts(t, d, 4, 6, true)

	e := c.Copy() // a copy of one that is down is down
	counts(t, e, 3, 6, true)
	c.Crash([]int{block.Kept, block.Front, block.Back})
	has(t, c, 0, halved(2, 4))
	has(t, c, 1, halved(3, 0))
	counts(t, c, 0, 6, false)
	counts(t, e, 3, 6, true)
	e.Crash([]int{block.Back, block.Kept, block.Lost})
	has(t, e, 0, halved(1, 2))
	has(t, e, 1, full(3))
	counts(t, d, 4, 6, true)
	d.Crash([]int{block.Lost})
	has(t, d, 0, full(1))
	has(t, d, 1, full(0))
	has(t, c, 0, halved(2, 4))
	flushed(t, c) // nothing is armed
	c.Arm(0)
	flushed(t, d)
	flushed(t, e)
}
