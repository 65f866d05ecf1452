package roll

import (
	"bytes"
	"slices"

	"quiltwork/api"
)

// The blocks of a device: the heads, and then the areas.
const (
	heads = 2
	areas = 2
)

// far is the least number that no head has.
const far = 1 << 40

// half is how many bytes of a block stay together, whatever becomes of it.
const half = api.Block / 2

// Where a head has what it says. Its number is the first thing of each half.
const (
	numberSize = 8
	areaAt     = numberSize
	usedAt     = areaAt + 1
	recordsAt  = usedAt + 4
	saidEnd    = recordsAt + 4
)

// sizeBytes is how many bytes say how many bytes a record has.
const sizeBytes = 2

// head is what a head says: its area, how many blocks of that are used, and how many records these are.
type head struct {
	number              uint64
	area, used, records int
}

// bytes tells what h is on a device.
func (h head) bytes() []byte {
	b := make([]byte, api.Block)
	setNumber(b[:numberSize], h.number)
	b[areaAt] = byte(h.area)
	setNumber(b[usedAt:recordsAt], uint64(h.used))
	setNumber(b[recordsAt:saidEnd], uint64(h.records))
	setNumber(b[half:half+numberSize], h.number)
	return b
}

// headOf tells the head that a block is; false, if its bytes are not as a head has them.
func headOf(b []byte) (head, bool) {
	h := head{
		number:  number(b[:numberSize]),
		area:    int(b[areaAt]),
		used:    int(number(b[usedAt:recordsAt])),
		records: int(number(b[recordsAt:saidEnd])),
	}
	if h.number < 1 || h.number >= far || h.area >= areas || !bytes.Equal(b, h.bytes()) {
		return head{}, false
	}
	return h, true
}

// held tells what the head in block at says, and the records of its area; false, if it does not hold. The areas are of size blocks.
func held(image []byte, at, size int) (head, [][]byte, bool) {
	h, is := headOf(image[at*api.Block:][:api.Block])
	if !is || h.used > size {
		return head{}, nil, false
	}
	l, is := recordsOf(image[areaFrom(h.area, size)*api.Block:][:h.used*api.Block])
	if !is || len(l) != h.records {
		return head{}, nil, false
	}
	return h, l, true
}

// areaFrom tells the first block of an area.
func areaFrom(area, size int) int {
	return heads + area*size
}

// recordBytes tells what a record is on a device: whole blocks.
func recordBytes(rec []byte) []byte {
	b := make([]byte, blocks(len(rec))*api.Block)
	setNumber(b[:sizeBytes], uint64(len(rec)))
	copy(b[sizeBytes:], rec)
	return b
}

// recordsOf tells the records that stand in blocks, one behind the other; false, if these are not just some records.
func recordsOf(b []byte) ([][]byte, bool) {
	var l [][]byte
	for len(b) > 0 {
		n := int(number(b[:sizeBytes]))
		end := blocks(n) * api.Block
		if n > api.MaxRec || end > len(b) {
			return nil, false
		}
		rec := bytes.Clone(b[sizeBytes:][:n])
		if !bytes.Equal(b[:end], recordBytes(rec)) {
			return nil, false
		}
		l, b = append(l, rec), b[end:]
	}
	return l, true
}

// blocks tells how many blocks a record of n bytes takes.
func blocks(n int) int {
	return (sizeBytes + n + api.Block - 1) / api.Block
}

// tooLong tells whether rec is no record.
func tooLong(rec []byte) bool {
	return len(rec) > api.MaxRec
}

// number tells the number that b has, the lowest byte first.
func number(b []byte) uint64 {
	n := uint64(0)
	for _, c := range slices.Backward(b) {
		n = n<<8 | uint64(c)
	}
	return n
}

// setNumber has b have the number n, the lowest byte first.
func setNumber(b []byte, n uint64) {
	for k := range b {
		b[k] = byte(n >> (8 * k))
	}
}
