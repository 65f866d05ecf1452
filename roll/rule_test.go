package roll_test

import (
	"bytes"
	"encoding/binary"
	"fmt"
	"math/rand"
	"slices"
	"strings"
	"testing"

	"quiltwork/api"
	"quiltwork/block"
	"quiltwork/roll"
)

// rule is a roll by the chapter's words. Its calls tell another one, and change none.
type rule struct {
	image           []byte // of the device
	ops             int
	own             int // the block of its own head; -1: it has none
	area            int
	records, staged [][]byte
}

// step is an op of the device: a flush, or a write of a whole block.
type step struct {
	flush bool
	k     int
	b     []byte
}

// call is one call of a roll.
type call struct {
	name string
	l    [][]byte // what is handed in: a record, or some
}

func (c call) String() string {
	var l []string
	for _, rec := range c.l {
		if len(rec) > 8 {
			l = append(l, fmt.Sprintf("%q..(%d)", rec[:1], len(rec)))
			continue
		}
		l = append(l, fmt.Sprintf("%q", rec))
	}
	return c.name + " " + strings.Join(l, ",")
}

func stage(rec string) call  { return call{"Stage", [][]byte{[]byte(rec)}} }
func added(rec string) call  { return call{"Append", [][]byte{[]byte(rec)}} }
func seal() call             { return call{name: "Seal"} }
func reset(l ...string) call { return call{"Reset", rows(l...)} }

func rows(l ...string) [][]byte {
	var all [][]byte
	for _, s := range l {
		all = append(all, []byte(s))
	}
	return all
}

// xs is a record of n bytes.
func xs(n int) string {
	return strings.Repeat("x", n)
}

// padded is b with zeros behind it, until it is of n bytes.
func padded(b []byte, n int) []byte {
	return append(slices.Clone(b), make([]byte, n-len(b))...)
}

// stored is a record on a device.
func stored(rec []byte) []byte {
	b := append(binary.LittleEndian.AppendUint16(nil, uint16(len(rec))), rec...)
	return padded(b, (len(b)+63)/64*64)
}

// places is how many blocks the records take.
func places(l [][]byte) int {
	n := 0
	for _, rec := range l {
		n += len(stored(rec)) / 64
	}
	return n
}

// headOf is a head on a device.
func headOf(number uint64, area byte, used, count uint32) []byte {
	b := binary.LittleEndian.AppendUint64(nil, number)
	b = append(b, area)
	b = binary.LittleEndian.AppendUint32(b, used)
	b = binary.LittleEndian.AppendUint32(b, count)
	b = binary.LittleEndian.AppendUint64(padded(b, 32), number)
	return padded(b, 64)
}

// ruleSize is h.
func ruleSize(image []byte) int {
	return (len(image)/64 - 2) / 2
}

// said is the number, the area and the records of the head in a block, if it holds.
func said(image []byte, at int) (number uint64, area int, l [][]byte, is bool) {
	b := image[64*at : 64*at+64]
	number, area = binary.LittleEndian.Uint64(b), int(b[8])
	used, count := binary.LittleEndian.Uint32(b[9:]), binary.LittleEndian.Uint32(b[13:])
	if number == 0 || number > 1<<40-1 || area > 1 || binary.LittleEndian.Uint64(b[32:]) != number {
		return 0, 0, nil, false
	}
	for k, c := range b {
		if (17 <= k && k < 32 || 40 <= k) && c != 0 {
			return 0, 0, nil, false
		}
	}
	if int(used) > ruleSize(image) || count > used {
		return 0, 0, nil, false
	}
	from := image[64*(2+area*ruleSize(image)):][:64*int(used)]
	for range count {
		if len(from) == 0 {
			return 0, 0, nil, false
		}
		n := int(from[0]) + 256*int(from[1])
		if n > 4000 || len(from) < 2+n {
			return 0, 0, nil, false
		}
		rec := slices.Clone(from[2 : 2+n])
		if !bytes.HasPrefix(from, stored(rec)) {
			return 0, 0, nil, false
		}
		l, from = append(l, rec), from[len(stored(rec)):]
	}
	return number, area, l, len(from) == 0
}

// ruleOf is what is opened of a device with these bytes, which is of four blocks at least.
func ruleOf(image []byte, ops int) rule {
	q := rule{image: slices.Clone(image), ops: ops, own: -1}
	a, first, l, is := said(image, 0)
	b, second, m, too := said(image, 1)
	switch {
	case is && (!too || a >= b):
		q.own, q.area, q.records = 0, first, l
	case too:
		q.own, q.area, q.records = 1, second, m
	}
	return q
}

func (q rule) size() int { return ruleSize(q.image) }

func (q rule) room() int { return q.size() - places(q.records) - places(q.staged) }

// number is that of the next head; 2^40, if there is none.
func (q rule) number() uint64 {
	most := uint64(0)
	for _, at := range []int{0, 32, 64, 96} {
		if n := binary.LittleEndian.Uint64(q.image[at:]); n < 1<<40 && n > most {
			most = n
		}
	}
	return most + 1
}

// does is what a call does while the device is up: its ops, what is then, and what it tells. Of an error nothing has changed.
func (q rule) does(c call) ([]step, rule, api.Errno) {
	switch c.name {
	case "Stage":
		return q.stage(c.l[0])
	case "Seal":
		return q.seal()
	case "Append":
		first, q, e := q.stage(c.l[0])
		if e != 0 {
			return nil, q, e
		}
		second, q, e := q.seal()
		return append(first, second...), q, e
	}
	return q.reset(c.l)
}

func (q rule) stage(rec []byte) ([]step, rule, api.Errno) {
	if len(rec) > 4000 {
		return nil, q, 110
	}
	if places([][]byte{rec}) > q.room() {
		return nil, q, 111
	}
	steps := writes(2+q.area*q.size()+places(q.records)+places(q.staged), stored(rec))
	q.staged = append(slices.Clone(q.staged), slices.Clone(rec))
	return steps, q.after(steps), 0
}

func (q rule) seal() ([]step, rule, api.Errno) {
	if len(q.staged) == 0 {
		return nil, q, 0
	}
	if q.number() == 1<<40 {
		return nil, q, 111
	}
	q.records = append(slices.Clone(q.records), q.staged...)
	q.staged = nil
	steps, q := q.headed()
	return steps, q, 0
}

func (q rule) reset(l [][]byte) ([]step, rule, api.Errno) {
	for _, rec := range l {
		if len(rec) > 4000 {
			return nil, q, 110
		}
	}
	if places(l) > q.size() || q.number() == 1<<40 {
		return nil, q, 111
	}
	q.area, q.records, q.staged = 1-q.area, nil, nil
	var all []byte
	for _, rec := range l {
		all = append(all, stored(rec)...)
		q.records = append(q.records, slices.Clone(rec))
	}
	steps := writes(2+q.area*q.size(), all)
	q = q.after(steps)
	more, q := q.headed()
	return append(steps, more...), q, 0
}

// headed has the head written that is not its own, between two flushes.
func (q rule) headed() ([]step, rule) {
	at := 1 - q.own
	if q.own < 0 {
		at = 0
	}
	b := headOf(q.number(), byte(q.area), uint32(places(q.records)), uint32(len(q.records)))
	steps := []step{{flush: true}, {k: at, b: b}, {flush: true}}
	q.own = at
	return steps, q.after(steps)
}

// writes are those of some whole blocks, from a block on.
func writes(from int, b []byte) []step {
	var steps []step
	for k := 0; 64*k < len(b); k++ {
		steps = append(steps, step{k: from + k, b: b[64*k : 64*k+64]})
	}
	return steps
}

// after is q behind these ops: the device has them.
func (q rule) after(steps []step) rule {
	q.image = slices.Clone(q.image)
	for _, s := range steps {
		copy(q.image[64*s.k:], s.b)
	}
	q.ops += len(steps)
	return q
}

// onRoll has a roll do a call.
func (c call) onRoll(r *roll.Roll) api.Errno {
	switch c.name {
	case "Stage":
		return r.Stage(c.l[0])
	case "Seal":
		return r.Seal()
	case "Append":
		return r.Append(c.l[0])
	}
	return r.Reset(c.l)
}

func sameRows(l, m [][]byte) bool {
	return slices.EqualFunc(l, m, bytes.Equal)
}

// tells holds what a roll tells of itself against the rule.
func (q rule) tells(t *testing.T, r *roll.Roll, what any) {
	t.Helper()
	if l := r.Records(); !sameRows(l, q.records) {
		t.Fatalf("%v: the records are %.200q, want %.200q", what, l, q.records)
	}
	if r.Room() != q.room() || r.Staged() != len(q.staged) {
		t.Fatalf("%v: room %d, staged %d; want %d, %d", what, r.Room(), r.Staged(), q.room(), len(q.staged))
	}
}

// hold holds a roll and its device against the rule.
func (q rule) hold(t *testing.T, d *block.Dev, r *roll.Roll, what any) {
	t.Helper()
	q.tells(t, r, what)
	if d.Ops() != q.ops {
		t.Fatalf("%v: %d ops, want %d", what, d.Ops(), q.ops)
	}
	if !bytes.Equal(d.Image(), q.image) {
		t.Fatalf("%v: the image is\n%s, want\n%s", what, brief(d.Image()), brief(q.image))
	}
}

// brief is an image so that it can be read: the blocks that are not of zeros alone.
func brief(image []byte) string {
	var s strings.Builder
	for k := 0; 64*k < len(image); k++ {
		if b := image[64*k : 64*k+64]; !bytes.Equal(b, make([]byte, 64)) {
			fmt.Fprintf(&s, "%d: %x\n", k, b)
		}
	}
	return s.String()
}

// opened is the roll of a device.
func opened(t *testing.T, d *block.Dev) *roll.Roll {
	t.Helper()
	r, e := roll.Open(d)
	if e != api.OK || r == nil {
		t.Fatalf("Open tells %d", e)
	}
	return r
}

// on has a roll, and the rule, do a call, and holds them against each other.
func (c call) on(t *testing.T, d *block.Dev, r *roll.Roll, q rule, what any) rule {
	t.Helper()
	_, next, want := q.does(c)
	if e := c.onRoll(r); e != want {
		t.Fatalf("%v: %v tells %d, want %d", what, c, e, want)
	}
	next.hold(t, d, r, fmt.Sprint(what, ": ", c))
	return next
}

// begun is a device with these bytes, its roll, and the rule of it.
func begun(t *testing.T, image []byte) (*block.Dev, *roll.Roll, rule) {
	t.Helper()
	d := block.Of(image)
	r, q := opened(t, d), ruleOf(image, 0)
	q.hold(t, d, r, "at the beginning")
	return d, r, q
}

// ran is that behind some calls.
func ran(t *testing.T, image []byte, calls ...call) (*block.Dev, *roll.Roll, rule) {
	t.Helper()
	d, r, q := begun(t, image)
	for _, c := range calls {
		q = c.on(t, d, r, q, calls)
	}
	return d, r, q
}

// zeros are the bytes of a device of so many blocks.
func zeros(count int) []byte {
	return make([]byte, 64*count)
}

// fewCalls are calls that are unlike for a roll of areas of one to three blocks.
func fewCalls() []call {
	return []call{
		stage(""), stage("a"), stage(xs(63)), stage(xs(4001)),
		added("b"), seal(),
		reset(), reset("c"), reset("d", ""), reset("e", xs(62), "f"), reset("g", xs(4001)),
	}
}

func TestAllFewCalls(t *testing.T) { // P11.1 to P11.3
	for _, count := range []int{4, 5, 6, 7, 8, 9} {
		eachRow(fewCalls(), 4, func(calls []call) {
			d, _, q := ran(t, zeros(count), calls...)
			q.staged = nil
			q.tells(t, opened(t, d), calls) // as it is opened anew
		})
	}
}

// eachRow goes through all rows of so many calls.
func eachRow(all []call, n int, do func([]call)) {
	row := make([]call, n)
	var walk func(k int)
	walk = func(k int) {
		if k == n {
			do(row)
			return
		}
		for _, row[k] = range all {
			walk(k + 1)
		}
	}
	walk(0)
}

// randomRecord is of few lengths, most of which just fill blocks, or just don't.
func randomRecord(dice *rand.Rand) string {
	n := []int{0, 1, 2, 61, 62, 63, 64, 125, 126, 127, 190, 191, 300, 3998, 4000, 4001}[dice.Intn(16)]
	if dice.Intn(3) == 0 {
		n = dice.Intn(5)
	}
	b := make([]byte, n)
	if dice.Intn(5) > 0 {
		dice.Read(b)
	}
	return string(b)
}

func randomCall(dice *rand.Rand) call {
	switch dice.Intn(10) {
	case 0, 1, 2, 3:
		return stage(randomRecord(dice))
	case 4, 5:
		return seal()
	case 6, 7:
		return added(randomRecord(dice))
	}
	l := make([]string, dice.Intn(7))
	for k := range l {
		l[k] = randomRecord(dice)
	}
	return reset(l...)
}

// randomHead is one as a head is, but now and then with bytes that are others.
func randomHead(dice *rand.Rand, size int) []byte {
	number := uint64(1 + dice.Intn(3))
	if dice.Intn(4) == 0 {
		number = []uint64{0, 1<<40 - 3, 1<<40 - 2, 1<<40 - 1, 1 << 40, 1<<64 - 1}[dice.Intn(6)]
	}
	used := dice.Intn(min(size, 4) + 2)
	b := headOf(number, byte(dice.Intn(2+dice.Intn(2))), uint32(used), uint32(max(0, used-dice.Intn(3))))
	for range max(0, dice.Intn(4)-2) {
		b[dice.Intn(64)] ^= 1 << dice.Intn(8)
	}
	return b
}

// randomImage is that of a device whose heads may hold, in each of whose areas there are some records at first.
func randomImage(dice *rand.Rand) []byte {
	image := zeros(4 + dice.Intn(9) + dice.Intn(2)*dice.Intn(300))
	size := ruleSize(image)
	for at := range 2 {
		copy(image[64*at:64*at+64], randomHead(dice, size))
		b := image[64*(2+at*size):][:64*size]
		for len(b) > 0 {
			b = b[copy(b, stored([]byte(randomRecord(dice)))):]
		}
	}
	for range max(0, dice.Intn(6)-4) {
		image[dice.Intn(len(image))] ^= 1 << dice.Intn(8)
	}
	return image
}

func TestDice(t *testing.T) { // P11.1 to P11.3
	dice := rand.New(rand.NewSource(11))
	for n := range 3000 {
		image := randomImage(dice)
		d, r, q := begun(t, image)
		for m := range 12 {
			q = randomCall(dice).on(t, d, r, q, [2]int{n, m})
			if dice.Intn(6) == 0 {
				r, q = opened(t, d), ruleOf(q.image, q.ops)
				q.hold(t, d, r, "opened again")
			}
		}
	}
}

func TestDiceOfAnyBytes(t *testing.T) { // P11.1
	dice := rand.New(rand.NewSource(111))
	for n := range 3000 {
		image := zeros(4 + dice.Intn(20))
		dice.Read(image)
		d, r, q := begun(t, image)
		for m := range 3 {
			q = randomCall(dice).on(t, d, r, q, [2]int{n, m})
		}
	}
}
