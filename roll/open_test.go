package roll_test

import (
	"bytes"
	"encoding/binary"
	"math/rand"
	"testing"

	"quiltwork/api"
	"quiltwork/block"
	"quiltwork/roll"
)

func TestErrnos(t *testing.T) {
	if api.ErrArg != 1 || api.ErrBlockDown != 100 || api.ErrRollForm != 110 || api.ErrRollFull != 111 {
		t.Error("the errors are not 1, 100, 110 and 111")
	}
}

func TestOpenTellsErrors(t *testing.T) { // P11.1
	down := func(count int) *block.Dev {
		d := block.New(count)
		d.Arm(0)
		d.Flush()
		return d
	}
	for _, x := range []struct {
		name string
		d    *block.Dev
		e    api.Errno
	}{
		{"nil", nil, 1},
		{"down", down(9), 100},
		{"down, and too small", down(1), 100},
		{"down, and too small", down(3), 100},
		{"of no blocks", block.New(0), 110},
		{"of 1 block", block.New(1), 110},
		{"of 2 blocks", block.New(2), 110},
		{"of 3 blocks", block.New(3), 110},
		{"of a head that could hold, and no area", block.Of(headOf(1, 0, 0, 0)), 110},
	} {
		if r, e := roll.Open(x.d); e != x.e || r != nil {
			t.Errorf("Open of a device that is %s tells %v, %d; want %d", x.name, r, e, x.e)
		}
	}
	d := down(9)
	d.Crash(nil)
	opened(t, d) // it is up again
}

func TestOpenOfNew(t *testing.T) { // P11.1
	for _, x := range []struct{ count, room int }{
		{4, 1}, {5, 1}, {6, 2}, {7, 2}, {8, 3}, {9, 3}, {130, 64}, {131, 64}, {4095, 2046}, {4096, 2047}, {5000, 2047},
	} {
		d := block.New(x.count)
		r := opened(t, d)
		if len(r.Records()) != 0 || r.Staged() != 0 || r.Room() != x.room {
			t.Errorf("a new one of %d blocks: %v, %d staged, room %d; want %d", x.count, r.Records(), r.Staged(), r.Room(), x.room)
		}
		if d.Ops() != 0 || d.Pending() != 0 {
			t.Errorf("a new one of %d blocks: %d ops", x.count, d.Ops())
		}
		d.Write(2, []byte{9, 9})
		if e := r.Append([]byte("a")); e != api.OK {
			t.Errorf("Append tells %d", e)
		}
		if b, _ := d.Read(2); !bytes.Equal(b, padded([]byte("\x01\x00a"), 64)) {
			t.Errorf("it is not in area 0: %v", b)
		}
	}
}

// held is the image of a device of 9 blocks (areas of 3, one is left over) whose areas have: ab and 63 x; cd, ef and nothing. No head is there.
func held() []byte {
	image := zeros(9)
	copy(image[2*64:], stored([]byte("ab")))
	copy(image[3*64:], stored([]byte(xs(63))))
	copy(image[5*64:], stored([]byte("cd")))
	copy(image[6*64:], stored([]byte("ef")))
	return image
}

// with is an image with these bytes from a place on.
func with(image []byte, at int, b ...byte) []byte {
	image = bytes.Clone(image)
	copy(image[at:], b)
	return image
}

// number8 is a number's eight bytes.
func number8(n uint64) []byte {
	return binary.LittleEndian.AppendUint64(nil, n)
}

// opens holds what is opened of an image against records, and against the rule.
func opens(t *testing.T, what any, image []byte, room int, l ...string) {
	t.Helper()
	d := block.Of(image)
	d.Write(0, image[:64]) // what was written, and isn't flushed, is read, too
	d.Arm(0)               // an op would bring it down
	r := opened(t, d)
	if !sameRows(r.Records(), rows(l...)) || r.Room() != room || r.Staged() != 0 {
		t.Fatalf("%v: %q, room %d, staged %d; want %q, %d", what, r.Records(), r.Room(), r.Staged(), l, room)
	}
	if d.Ops() != 1 || d.Pending() != 1 || d.Down() || !bytes.Equal(d.Image(), image) {
		t.Fatalf("%v: Open did something to the device", what)
	}
	ruleOf(image, 1).tells(t, r, what)
}

func TestHeadsThatHold(t *testing.T) { // P11.1
	for at := range 2 {
		for _, number := range []uint64{1, 2, 255, 256, 1 << 32, 1<<40 - 2, 1<<40 - 1} {
			for _, x := range []struct {
				area        byte
				used, count uint32
				room        int
				l           []string
			}{
				{0, 0, 0, 3, nil},
				{0, 1, 1, 2, []string{"ab"}},
				{0, 3, 2, 0, []string{"ab", xs(63)}},
				{1, 0, 0, 3, nil},
				{1, 1, 1, 2, []string{"cd"}},
				{1, 2, 2, 1, []string{"cd", "ef"}},
				{1, 3, 3, 0, []string{"cd", "ef", ""}},
			} {
				image := with(held(), 64*at, headOf(number, x.area, x.used, x.count)...)
				opens(t, x, image, x.room, x.l...)
			}
		}
	}
}

func TestHeadsThatFail(t *testing.T) { // P11.1: in one thing each
	good := headOf(5, 0, 3, 2)
	both := func(n uint64) []byte { return with(with(good, 0, number8(n)...), 32, number8(n)...) }
	for _, x := range []struct {
		name string
		head []byte
	}{
		{"no number", both(0)},
		{"the number 2^40", both(1 << 40)},
		{"the number 2^40 and 5", both(1<<40 + 5)},
		{"the number 2^56", both(1 << 56)},
		{"the number 2^63", both(1 << 63)},
		{"the number 2^64 less 1", both(1<<64 - 1)},
		{"another number at the beginning", with(good, 0, 6)},
		{"another number at the beginning", with(good, 0, 4)},
		{"no number at the beginning", with(good, 0, 0)},
		{"2^40 more at the beginning", with(good, 5, 1)},
		{"2^56 more at the beginning", with(good, 7, 1)},
		{"another number behind", with(good, 32, 6)},
		{"another number behind", with(good, 32, 4)},
		{"no number behind", with(good, 32, 0)},
		{"2^40 more behind", with(good, 37, 1)},
		{"2^56 more behind", with(good, 39, 1)},
		{"area 2", with(good, 8, 2)},
		{"area 128", with(good, 8, 128)},
		{"area 255", with(good, 8, 255)},
		{"the other area, with three records", with(good, 8, 1)},
		{"2 blocks", headOf(5, 0, 2, 2)},
		{"1 block", headOf(5, 0, 1, 2)},
		{"no block", headOf(5, 0, 0, 2)},
		{"4 blocks", headOf(5, 0, 4, 2)},
		{"256 blocks more", headOf(5, 0, 3+256, 2)},
		{"2^31 blocks more", headOf(5, 0, 3+1<<31, 2)},
		{"2^32 less 1 blocks", headOf(5, 0, 1<<32-1, 2)},
		{"no record", headOf(5, 0, 3, 0)},
		{"1 record", headOf(5, 0, 3, 1)},
		{"3 records", headOf(5, 0, 3, 3)},
		{"256 records more", headOf(5, 0, 3, 2+256)},
		{"2^31 records more", headOf(5, 0, 3, 2+1<<31)},
		{"2^32 less 1 records", headOf(5, 0, 3, 1<<32-1)},
		{"records, and no blocks", headOf(5, 0, 0, 1)},
		{"one block more than h, which has a record", headOf(5, 0, 4, 3)},
		{"one block more than h, behind which is one", headOf(5, 1, 4, 4)},
		{"more blocks than there are", headOf(5, 1, 5, 5)},
	} {
		for at := range 2 {
			image := with(held(), 64*at, x.head...)
			opens(t, x.name, image, 3)
			image = with(image, 64*(1-at), headOf(3, 1, 2, 2)...) // the other one holds
			opens(t, x.name, image, 1, "cd", "ef")
		}
	}
}

func TestEachByteOfAHead(t *testing.T) { // P11.1: any other one has it fail
	good := headOf(5, 0, 3, 2)
	for at := range 2 {
		for k := range 64 {
			for _, by := range []byte{1, 2, 128, 255} {
				image := with(held(), 64*at, good...)
				image[64*at+k] ^= by
				opens(t, [3]int{at, k, int(by)}, image, 3)
			}
		}
	}
}

func TestRecordsOfAHead(t *testing.T) { // P11.1
	base := with(held(), 0, headOf(5, 0, 3, 2)...)
	for _, x := range []struct {
		name  string
		image []byte
		room  int
		l     []string
	}{
		{"other bytes", with(base, 130, 'q'), 0, []string{"qb", xs(63)}},
		{"a zero byte", with(base, 131, 0), 0, []string{"a\x00", xs(63)}},
		{"one byte more", with(base, 128, 3), 0, []string{"ab\x00", xs(63)}},
		{"what just fills the block", with(base, 128, 62), 0, []string{"ab" + string(make([]byte, 60)), xs(63)}},
		{"one byte fewer, which is behind it", with(base, 128, 1), 3, nil},
		{"no zero behind it", with(base, 132, 1), 3, nil},
		{"no zero at the block's end", with(base, 191, 1), 3, nil},
		{"a record of two blocks, and one", with(base, 128, 63), 3, nil}, // the block behind it is of no record
		{"no zero at the end of the last one", with(base, 319, 1), 3, nil},
		{"a last one of three blocks", with(base, 192, 127), 3, nil},
		{"a last one that is greater than all", with(base, 192, 255, 255), 3, nil},
		{"a first one that is greater than all", with(base, 128, 0xa1, 0x0f), 3, nil},
		{"as many as a number of one byte has not", with(base, 129, 1), 3, nil},
		{"as many as just fill three blocks", with(with(base, 128, 190, 0), 0, headOf(5, 0, 3, 1)...), 0, []string{string(base[130:320])}},
		{"one byte more than that", with(with(base, 128, 191, 0), 0, headOf(5, 0, 3, 1)...), 3, nil},
	} {
		opens(t, x.name, x.image, x.room, x.l...)
	}
}

func TestEachByteOfRecords(t *testing.T) { // P11.1
	base := with(held(), 64, headOf(5, 0, 3, 2)...)
	for k := range 3 * 64 {
		for _, by := range []byte{1, 2, 64, 128, 255} {
			image := bytes.Clone(base)
			image[128+k] ^= by
			r := opened(t, block.Of(image))
			ruleOf(image, 0).tells(t, r, [2]int{k, int(by)})
			text := 2 <= k && k < 4 || 66 <= k && k < 129
			if is := len(r.Records()) == 2; text && !is {
				t.Errorf("byte %d is one of a record: it may be any", k)
			}
		}
	}
}

func TestLongRecordsOfAHead(t *testing.T) { // P11.1: at most MaxRec bytes
	for _, x := range []struct {
		n  int
		is bool
	}{{3999, true}, {4000, true}, {4001, false}, {4030, false}} {
		image := zeros(130)
		for area := range 2 {
			copy(image[64*(2+64*area):], stored([]byte(xs(x.n))))
			image := with(image, 0, headOf(1, byte(area), 63, 1)...)
			if x.is {
				opens(t, x.n, image, 1, xs(x.n))
			} else {
				opens(t, x.n, image, 64)
			}
		}
	}
}

func TestHeadsOfALargeDevice(t *testing.T) { // P11.1
	image := zeros(4096)
	l := make([]string, 2047)
	for k := range l {
		l[k] = string([]byte{byte(k), byte(k >> 8)})
		copy(image[64*(2+2047+k):], stored([]byte(l[k])))
	}
	opens(t, "all blocks", with(image, 64, headOf(7, 1, 2047, 2047)...), 0, l...)
	opens(t, "all but one", with(image, 64, headOf(7, 1, 2046, 2046)...), 1, l[:2046]...)
	opens(t, "one more", with(image, 64, headOf(7, 1, 2048, 2048)...), 2047)
}

func TestTwoHeads(t *testing.T) { // P11.1
	first, second := []string{"ab", xs(63)}, []string{"cd", "ef"}
	bad := with(headOf(9, 0, 3, 2), 20, 1)
	for _, x := range []struct {
		name string
		a, b []byte
		room int
		l    []string
		own  int
	}{
		{"the same number", headOf(5, 0, 3, 2), headOf(5, 1, 2, 2), 0, first, 0},
		{"the same number", headOf(5, 1, 2, 2), headOf(5, 0, 3, 2), 1, second, 0},
		{"the first is greater", headOf(6, 0, 3, 2), headOf(5, 1, 2, 2), 0, first, 0},
		{"the second is greater", headOf(5, 0, 3, 2), headOf(6, 1, 2, 2), 1, second, 1},
		{"the second is greater by a higher byte", headOf(255, 0, 3, 2), headOf(256, 1, 2, 2), 1, second, 1},
		{"the first is greater by a higher byte", headOf(1<<39, 0, 3, 2), headOf(1<<39-1, 1, 2, 2), 0, first, 0},
		{"the first is greater, of none", headOf(6, 1, 0, 0), headOf(5, 1, 2, 2), 3, nil, 0},
		{"of one area", headOf(6, 1, 1, 1), headOf(7, 1, 2, 2), 1, second, 1},
		{"of one area, and fewer", headOf(6, 1, 2, 2), headOf(7, 1, 1, 1), 2, second[:1], 1},
		{"a greater one that fails", bad, headOf(5, 1, 2, 2), 1, second, 1},
		{"a greater one that fails", headOf(5, 0, 3, 2), bad, 0, first, 0},
		{"both fail", bad, bad, 3, nil, -1},
	} {
		image := with(with(held(), 0, x.a...), 64, x.b...)
		opens(t, x.name, image, x.room, x.l...)
		d, r, _ := begun(t, image)
		if e := r.Reset(nil); e != api.OK {
			t.Fatalf("Reset tells %d", e)
		}
		written := 1 - x.own
		if x.own < 0 {
			written = 0
		}
		now := d.Image()
		if other := 1 - written; bytes.Equal(now[64*written:][:64], image[64*written:][:64]) || !bytes.Equal(now[64*other:][:64], image[64*other:][:64]) {
			t.Errorf("%s: its own head is not %d", x.name, x.own)
		}
	}
}

func TestOpenAgainAndAgain(t *testing.T) { // P11.1: it writes nothing, and tells the same
	dice := rand.New(rand.NewSource(1111))
	for range 300 {
		image := randomImage(dice)
		d := block.Of(image)
		for range 3 {
			ruleOf(image, 0).hold(t, d, opened(t, d), "again")
		}
	}
}
