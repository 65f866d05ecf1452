package block_test

import (
	"bytes"
	"slices"
	"testing"

	"quiltwork/api"
	"quiltwork/block"
)

// overwrite writes into bytes, and into their room.
func overwrite(b []byte) {
	b = b[:cap(b)]
	for k := range b {
		b[k] = '!'
	}
}

// roomy is bytes with room behind them, where a careless append would write.
func roomy(b []byte) []byte {
	return append(make([]byte, 0, len(b)+200), b...)
}

// untouched tells whether bytes, and the room of zeros behind them, are as roomy made them.
func untouched(b, want []byte) bool {
	return bytes.Equal(b[:cap(b)], padded(want, cap(b)))
}

func TestOfIsOfACopy(t *testing.T) { // R5, R6
	for _, n := range []int{0, 1, 64, 65, 128, 64*4096 + 3} {
		want := bytes.Repeat([]byte{7}, n)
		image := roomy(want)
		d := block.Of(image)
		was := d.Image()
		for k := range min(3, d.Count()) {
			d.Write(k, full(9))
		}
		d.Crash([]int{block.Front})
		if !untouched(image, want) {
			t.Errorf("an image of %d bytes is changed", n)
		}
		c := block.Of(image)
		overwrite(image)
		if !bytes.Equal(c.Image(), was) {
			t.Errorf("a device changes with the image of %d bytes that it is of", n)
		}
	}
}

func TestWriteKeepsNothing(t *testing.T) { // R5, R6
	for _, n := range []int{0, 1, 63, 64} {
		d := block.New(2)
		want := full(7)[:n]
		b := roomy(want)
		wrote(t, d, 1, b)
		wrote(t, d, 0, b)
		wrote(t, d, 1, full(1))
		if !untouched(b, want) {
			t.Errorf("%d bytes that were written are changed", n)
		}
		overwrite(b)
		has(t, d, 0, padded(want, 64))
		c := d.Copy()
		c.Crash([]int{block.Kept, block.Lost, block.Lost}) // the row has them as they were, too
		has(t, c, 1, padded(want, 64))
		has(t, c, 0, full(0))
		if b[:1][0] != '!' {
			t.Error("a crash changed bytes that were handed in")
		}
	}
}

func TestWriteOfTooManyReadsNone(t *testing.T) { // R5
	d := block.New(1)
	b := roomy(make([]byte, 65))
	d.Write(0, b)
	d.Write(5, b)
	d.Arm(0)
	d.Flush()
	d.Write(0, b)
	if !untouched(b, make([]byte, 65)) {
		t.Error("bytes that are not written are changed")
	}
}

func TestReadIsTheCallersOwn(t *testing.T) { // R6
	d := block.New(2)
	wrote(t, d, 0, full(1))
	wrote(t, d, 1, full(2))
	for range 2 {
		a, _ := d.Read(0)
		b, _ := d.Read(1)
		again, _ := d.Read(0)
		overwrite(a)
		if !bytes.Equal(b, full(2)) || !bytes.Equal(again, full(1)) {
			t.Error("bytes that were read are shared")
		}
		overwrite(b)
		overwrite(again)
		has(t, d, 0, full(1))
		has(t, d, 1, full(2))
	}
	b, _ := d.Read(0)
	wrote(t, d, 0, full(5))
	if !bytes.Equal(b, full(1)) {
		t.Error("bytes that were read change with a write")
	}
	b, _ = d.Read(0)
	d.Crash([]int{block.Front})
	if !bytes.Equal(b, full(5)) {
		t.Error("bytes that were read change in a crash")
	}
}

func TestImageIsTheCallersOwn(t *testing.T) { // R6
	d := block.New(2)
	wrote(t, d, 1, full(2))
	want := append(full(0), full(2)...)
	image, again := d.Image(), d.Image()
	overwrite(image)
	if !bytes.Equal(again, want) || !bytes.Equal(d.Image(), want) {
		t.Error("an image is shared")
	}
	wrote(t, d, 1, full(3))
	d.Crash(nil)
	if !bytes.Equal(again, want) {
		t.Error("an image changes with the device")
	}
}

func TestCrashKeepsNoForms(t *testing.T) { // R5, R6
	forms := append(make([]int, 0, 6), 5, -3, 2)
	d := block.New(1)
	for n := range 7 {
		wrote(t, d, 0, full(byte(n)))
	}
	d.Crash(forms)
	if !slices.Equal(forms[:6], []int{5, -3, 2, 0, 0, 0}) {
		t.Errorf("the forms are changed to %v", forms[:6])
	}
	has(t, d, 0, halved(6, 6))
}

func TestRowOfACopyIsItsOwn(t *testing.T) { // R6: also where there is room behind the row
	for n := range 20 {
		d := block.New(1)
		for k := range n {
			wrote(t, d, 0, full(byte(1+k)))
		}
		c := d.Copy()
		wrote(t, d, 0, full(101))
		wrote(t, c, 0, full(102))
		wrote(t, d, 0, full(103))
		forms := append(make([]int, n), block.Kept, block.Lost)
		c.Crash(forms)
		d.Crash(forms)
		has(t, d, 0, full(101))
		has(t, c, 0, full(102))
	}
}

func TestTheSameAlways(t *testing.T) { // R7
	run := func() []byte {
		d := block.New(3)
		var told []byte
		for n := range 200 {
			if n%37 == 0 {
				d.Arm(11)
			}
			e := d.Write(n%4, []byte{byte(n), 1})
			if n%9 == 0 {
				e += d.Flush()
			}
			if n%50 == 49 {
				d.Crash([]int{n, 2, 3})
			}
			told = append(append(told, byte(e)), d.Image()...)
		}
		return told
	}
	want := run()
	for range 3 {
		if !bytes.Equal(run(), want) {
			t.Error("the same calls tell other things")
		}
	}
}

func TestErrors(t *testing.T) {
	if api.ErrBlockDown != 100 || api.ErrBlockAt != 101 {
		t.Error("the errors are not 100 and 101")
	}
}
