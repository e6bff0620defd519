package halves_test

import (
	"encoding/binary"
	"fmt"
	"hash/crc32"
	"math"
	"slices"
	"strings"
	"testing"

	"homecoming/api"
	"homecoming/disk"
	"homecoming/halves"
)

// most is how many bytes a string with a record has at most.
const most = 1 << 15

// record is that of s by the document's words, or the empty string if there is none.
func record(s string) string {
	if len(s) < 1 || len(s) > most {
		return ""
	}
	b := binary.LittleEndian.AppendUint16([]byte{0xa5}, uint16(len(s)))
	b = binary.LittleEndian.AppendUint32(b, crc32.ChecksumIEEE([]byte(s)))
	return string(b) + s + "\x5a"
}

// head is that of a log by the document's words.
func head(epoch uint64, snap string) string {
	b := binary.AppendUvarint(nil, epoch)
	return string(binary.AppendUvarint(b, uint64(len(snap)))) + snap
}

// written is what a log with this epoch, snapshot and records has in its half.
func written(epoch uint64, snap string, records ...string) string {
	all := record(head(epoch, snap))
	for _, s := range records {
		all += record(s)
	}
	return all
}

// zeros are n bytes 0.
func zeros(n int) string {
	return strings.Repeat("\x00", n)
}

// filled is s, with bytes 0 behind it up to n bytes.
func filled(s string, n int) string {
	return s + zeros(n-len(s))
}

// both are the bytes of a disk whose halves have n bytes and begin with these strings.
func both(n int, first, second string) string {
	return filled(first, n) + filled(second, n)
}

// holding is a disk with these durable bytes.
func holding(t *testing.T, bytes string) *disk.Disk {
	t.Helper()
	d := disk.New(len(bytes))
	if d.Write(0, bytes) != api.OK || d.Sync() != api.OK {
		t.Fatalf("no disk of %d bytes", len(bytes))
	}
	return d
}

// formatted is a new log, and its disk, of n bytes.
func formatted(t *testing.T, n int, snap string) (*halves.Log, *disk.Disk) {
	t.Helper()
	d := disk.New(n)
	l, err := halves.Format(d, snap)
	if l == nil || err != api.OK {
		t.Fatalf("Format of %d bytes: %v, %d", n, l != nil, int(err))
	}
	return l, d
}

// opened is the log of a disk.
func opened(t *testing.T, d *disk.Disk) *halves.Log {
	t.Helper()
	l, _, err := halves.Open(d)
	if l == nil || err != api.OK {
		t.Fatalf("Open: %v, %d", l != nil, int(err))
	}
	return l
}

// brief is s as it is told in a fault.
func brief(s string) string {
	if len(s) > 150 {
		return fmt.Sprintf("%x.. of %d bytes", s[:150], len(s))
	}
	return fmt.Sprintf("%x", s)
}

func wantCode(t *testing.T, what string, got, want api.Errno) {
	t.Helper()
	if got != want {
		t.Errorf("%s: %d, want %d", what, int(got), int(want))
	}
}

func wantBytes(t *testing.T, what string, d *disk.Disk, want string) {
	t.Helper()
	got, err := d.Read(0, d.Size())
	if got != want || err != api.OK {
		t.Errorf("%s: the disk holds %s, %d, want %s", what, brief(got), int(err), brief(want))
	}
}

// wantLog asks what a log tells of itself, Fits included.
func wantLog(t *testing.T, what string, l *halves.Log, epoch uint64, room int, broken bool) {
	t.Helper()
	if l.Epoch() != epoch || l.Room() != room || l.Broken() != broken {
		t.Errorf("%s: epoch %d, room %d, broken %v, want %d, %d, %v", what, l.Epoch(), l.Room(), l.Broken(), epoch, room, broken)
	}
	for _, n := range []int{math.MinInt, -9, -8, -7, -1, 0, 1, room - 9, room - 8, room - 7, room, most - 1, most, most + 1, 1 << 16, math.MaxInt - 8, math.MaxInt - 7, math.MaxInt} {
		if got, want := l.Fits(n), n >= 1 && n <= most && n+8 <= room; got != want {
			t.Errorf("%s: Fits(%d) is %v with %d bytes of room", what, n, got, room)
		}
	}
}

func same(a, b api.Found) bool {
	return a.Epoch == b.Epoch && a.Snap == b.Snap && slices.Equal(a.Records, b.Records)
}

// tell is f as it is told in a fault.
func tell(f api.Found) string {
	return brief(f.Snap) + fmt.Sprintf(" and %d records %.200q in epoch %d", len(f.Records), f.Records, f.Epoch)
}

func found(epoch uint64, snap string, records ...string) api.Found {
	return api.Found{Epoch: epoch, Snap: snap, Records: records}
}

// wantFound opens the disk twice, and asks for what is found each time.
func wantFound(t *testing.T, what string, d *disk.Disk, want api.Found) {
	t.Helper()
	for _, time := range []string{"", ", opened once more"} {
		l, f, err := halves.Open(d)
		if l == nil || err != api.OK || !same(f, want) {
			t.Errorf("%s%s: %v, %s, %d, want %s", what, time, l != nil, tell(f), int(err), tell(want))
			return
		}
		room := d.Size()/2 - len(written(want.Epoch, want.Snap, want.Records...))
		wantLog(t, what+time, l, want.Epoch, room, false)
	}
}

// wantNotOpened asks for an error, and for nothing beside it; the bytes of a disk that did not break stay.
func wantNotOpened(t *testing.T, what string, d *disk.Disk, want api.Errno) {
	t.Helper()
	before, code := d.Read(0, d.Size())
	l, f, err := halves.Open(d)
	if l != nil || !same(f, api.Found{}) || err != want {
		t.Errorf("%s: Open is %v, %s, %d, want nothing and %d", what, l != nil, tell(f), int(err), int(want))
	}
	if code == api.OK && !d.Broken() {
		wantBytes(t, what, d, before)
	}
}

// wantNotFormatted is the same of Format.
func wantNotFormatted(t *testing.T, what string, d *disk.Disk, snap string, want api.Errno) {
	t.Helper()
	before, code := d.Read(0, d.Size())
	l, err := halves.Format(d, snap)
	if l != nil || err != want {
		t.Errorf("%s: Format is %v, %d, want nothing and %d", what, l != nil, int(err), int(want))
	}
	if code == api.OK && !d.Broken() {
		wantBytes(t, what, d, before)
	}
}

// broken is a disk of n bytes that is broken.
func broken(n int) *disk.Disk {
	d := disk.New(n)
	d.Break(1)
	d.Sync()
	return d
}

// step is a Write of s, or a Sync.
type step struct {
	at   int
	s    string
	sync bool
}

func write(at int, s string) step { return step{at: at, s: s} }
func sync() step                  { return step{sync: true} }

// torn is what a disk holds that broke in the last of the steps, behind a crash that kept so many
// bytes; and how many were pending.
func torn(bytes string, steps []step, keep int) (string, int) {
	b, pending := []byte(bytes), []step{}
	apply := func(keep int) {
		for _, w := range pending {
			n := min(keep, len(w.s))
			copy(b[w.at:], w.s[:n])
			keep -= n
		}
	}
	for i, s := range steps {
		switch {
		case !s.sync:
			pending = append(pending, s)
		case i < len(steps)-1:
			apply(math.MaxInt)
			pending = nil
		}
	}
	n := 0
	for _, w := range pending {
		n += len(w.s)
	}
	apply(keep)
	return string(b), n
}

// wantSteps asks that a call performs these steps and no other. The disk breaks in each of them, and
// the bytes are asked for behind crashes that keep each number of bytes. The call is made anew for
// each disk by prepare, which leaves the disk as it is; after looks at a call that failed.
func wantSteps(t *testing.T, what, bytes string, steps []step, prepare func(d *disk.Disk) func() api.Errno, after func(what string)) {
	t.Helper()
	for n := 1; n <= len(steps); n++ {
		for keep := 0; ; keep++ {
			d := holding(t, bytes)
			call := prepare(d)
			d.Break(n)
			what := fmt.Sprintf("%s, broken in step %d, with %d bytes kept", what, n, keep)
			wantCode(t, what, call(), api.ErrIO)
			after(what)
			want, pending := torn(bytes, steps[:n], keep)
			if d.Pending() != pending || !d.Broken() {
				t.Errorf("%s: %d bytes are pending, want %d; broken %v", what, d.Pending(), pending, d.Broken())
			}
			d.Crash(keep)
			wantBytes(t, what, d, want)
			if keep > pending || t.Failed() {
				break
			}
		}
	}
	d := holding(t, bytes)
	call := prepare(d)
	d.Break(len(steps) + 1)
	wantCode(t, what, call(), api.OK)
	if d.Broken() || d.Pending() != 0 {
		t.Errorf("%s: broken %v, %d bytes are pending", what, d.Broken(), d.Pending())
	}
	want, _ := torn(bytes, append(slices.Clone(steps), sync()), 0)
	wantBytes(t, what, d, want)
	wantCode(t, what+", the next step", d.Sync(), api.ErrIO)
}

// P5.1

// junk are bytes of a disk of 61: both halves have 30 of them, and one is behind.
var junk = strings.Repeat("junk", 16)[:61]

func TestFormatBeginsALogInTheFirstHalf(t *testing.T) {
	for _, n := range []int{30, 31, 60, 61, 64, 1000, 1 << 17} {
		for _, snap := range []string{"", "s", "\x00\xa5\x5a"} {
			what := fmt.Sprintf("%d bytes, %q", n, snap)
			l, d := formatted(t, n, snap)
			wantLog(t, what, l, 1, n/2-10-len(snap), false)
			wantBytes(t, what, d, filled(record(head(1, snap)), n))
			wantFound(t, what, d, found(1, snap))
		}
	}
}

func TestFormatOverwritesBothHalvesAndNothingElse(t *testing.T) {
	d := holding(t, junk)
	if _, err := halves.Format(d, "s"); err != api.OK {
		t.Errorf("Format: %d", int(err))
	}
	wantBytes(t, "junk", d, filled(written(1, "s"), 60)+junk[60:])
}

func TestFormatWithoutADisk(t *testing.T) {
	for _, snap := range []string{"", "s", strings.Repeat("s", 1<<17)} {
		wantNotFormatted(t, "a nil disk", nil, snap, api.ErrArg)
	}
}

func TestFormatOfADiskThatCanNotBeRead(t *testing.T) {
	for _, n := range []int{1, 2, 19, 20, 64} {
		for _, snap := range []string{"", "s", strings.Repeat("s", 1<<17)} {
			d := broken(n)
			wantNotFormatted(t, "a broken disk", d, snap, api.ErrIO)
			d.Crash(0)
			wantBytes(t, "a broken disk, behind a crash", d, zeros(n))
		}
	}
	d := holding(t, both(20, written(math.MaxUint64, "s"), ""))
	d.Break(1)
	d.Sync()
	wantNotFormatted(t, "a broken disk with the last epoch", d, "", api.ErrIO)
}

func TestFormatTakesTheGreatestEpochOfTheHalves(t *testing.T) {
	noHead := record("\x00\x00")
	for _, c := range []struct {
		first, second string
		want          uint64
	}{
		{"", "", 1}, {"xyz", "xyz", 1}, {noHead, noHead, 1},
		{written(1, "a"), "", 2}, {"", written(1, "a"), 2}, {noHead, written(1, "a"), 2}, {written(1, "a"), noHead, 2},
		{written(1, "a"), written(2, "b"), 3}, {written(2, "a"), written(1, "b"), 3}, {written(7, "a"), written(7, "b"), 8},
		{written(5, "a", "x"), written(9, "b"), 10}, {written(9, "a"), written(5, "b", "x"), 10},
		{written(127, "a"), "", 128}, {written(1<<32-1, "a"), written(1<<63, "b"), 1<<63 + 1},
		{written(math.MaxUint64-1, "a"), "", math.MaxUint64}, {"", written(math.MaxUint64-1, "a"), math.MaxUint64},
		{noHead + written(9, "a"), "\x00" + written(9, "a"), 1},
	} {
		d := holding(t, both(40, c.first, c.second))
		what := fmt.Sprintf("%s and %s", brief(c.first), brief(c.second))
		l, err := halves.Format(d, "new")
		wantCode(t, what, err, api.OK)
		wantLog(t, what, l, c.want, 40-len(written(c.want, "new")), false)
		wantBytes(t, what, d, both(40, written(c.want, "new"), ""))
		wantFound(t, what, d, found(c.want, "new"))
	}
}

func TestFormatBeyondTheLastEpoch(t *testing.T) {
	last := written(math.MaxUint64, "s")
	for _, bytes := range []string{both(40, last, ""), both(40, "", last), both(40, last, last), both(40, written(3, "s"), last)} {
		wantNotFormatted(t, "the last epoch", holding(t, bytes), "", api.ErrFull)
		wantNotFormatted(t, "the last epoch", holding(t, bytes), strings.Repeat("s", 1<<17), api.ErrFull)
	}
}

// longest is the longest snapshot with which the head of a log with epoch 1 has room in n bytes.
func longest(n int) string {
	snap := ""
	for len(written(1, snap+"s")) <= n {
		snap += "s"
	}
	return snap
}

func TestFormatWithAHeadThatFillsAHalf(t *testing.T) {
	// In 138 bytes a snapshot of 128 has no room, as its length has two bytes.
	for _, n := range []int{10, 11, 30, 137, 138, 139, 140, 1000} {
		for odd := range 2 {
			what, snap := fmt.Sprintf("%d bytes", 2*n+odd), longest(n)
			l, d := formatted(t, 2*n+odd, snap)
			wantLog(t, what, l, 1, n-len(written(1, snap)), false)
			wantFound(t, what, d, found(1, snap))
			wantNotFormatted(t, what+", a byte more", disk.New(2*n+odd), snap+"s", api.ErrFull)
		}
	}
	// The epoch 128 has a byte more than 127.
	snap := strings.Repeat("s", 20)
	wantNotFormatted(t, "epoch 128", holding(t, both(30, written(127, ""), "")), snap, api.ErrFull)
	d := holding(t, both(30, written(126, ""), ""))
	if l, err := halves.Format(d, snap); err != api.OK || l.Room() != 0 {
		t.Errorf("epoch 127: %d, room %d", int(err), l.Room())
	}
}

func TestFormatWithAHeadWithoutRecord(t *testing.T) {
	snap := strings.Repeat("s", most-4)
	l, d := formatted(t, 1<<17, snap)
	wantLog(t, "the greatest head", l, 1, 1<<16-most-8, false)
	wantFound(t, "the greatest head", d, found(1, snap))
	for _, more := range []int{1, 2, most, 1 << 16, 1 << 17} {
		wantNotFormatted(t, "a head without record", disk.New(1<<17), snap+strings.Repeat("s", more), api.ErrFull)
	}
}

func TestFormatOfADiskThatIsTooSmall(t *testing.T) {
	for n := 1; n < 20; n++ {
		for _, snap := range []string{"", "s"} {
			wantNotFormatted(t, fmt.Sprintf("%d bytes", n), disk.New(n), snap, api.ErrFull)
		}
	}
}

func TestFormatPerformsItsStepsInOrder(t *testing.T) {
	for _, bytes := range []string{junk, zeros(61), both(30, written(3, "ab", "c"), written(2, "x")) + "!", both(30, written(2, "x"), written(3, "ab", "c")) + "!"} {
		epoch := uint64(1)
		if strings.HasSuffix(bytes, "!") {
			epoch = 4
		}
		steps := []step{write(0, zeros(30)), sync(), write(0, written(epoch, "new")), sync(), write(30, zeros(30)), sync()}
		var l *halves.Log
		prepare := func(d *disk.Disk) func() api.Errno {
			return func() (err api.Errno) {
				l, err = halves.Format(d, "new")
				return err
			}
		}
		wantSteps(t, "Format", bytes, steps, prepare, func(what string) {
			if l != nil {
				t.Errorf("%s: there is a log beside the error", what)
			}
		})
		wantLog(t, "Format", l, epoch, 30-len(written(epoch, "new")), false)
	}
}

// P5.2

func TestOpenOfTheDocumentsExample(t *testing.T) {
	l, d := formatted(t, 64, "s")
	wantCode(t, "a", l.Append("a"), api.OK)
	wantCode(t, "b", l.Append("b"), api.OK)
	wantFound(t, "ahead of the snapshot", d, found(1, "s", "a", "b"))
	wantCode(t, "t", l.Snap("t"), api.OK)
	wantFound(t, "behind the snapshot", d, found(2, "t"))
	wantCode(t, "c", l.Append("c"), api.OK)
	wantFound(t, "the example", d, found(2, "t", "c"))
	wantBytes(t, "the example", d, both(32, written(1, "s", "a", "b"), written(2, "t", "c")))
	wantLog(t, "the example", l, 2, 32-11-9, false)
}

func TestOpenWithoutADisk(t *testing.T) {
	l, f, err := halves.Open(nil)
	if l != nil || !same(f, api.Found{}) || err != api.ErrArg {
		t.Errorf("a nil disk: %v, %s, %d", l != nil, tell(f), int(err))
	}
}

func TestOpenOfADiskThatCanNotBeRead(t *testing.T) {
	for _, bytes := range []string{"x", zeros(2), zeros(64), both(32, written(1, "s"), "")} {
		d := holding(t, bytes)
		d.Break(1)
		d.Sync()
		wantNotOpened(t, "a broken disk", d, api.ErrIO)
		d.Crash(0)
		wantBytes(t, "a broken disk, behind a crash", d, bytes)
	}
}

func TestOpenOfADiskWithoutALog(t *testing.T) {
	for _, n := range []int{1, 2, 3, 19, 20, 21, 64, 65, 1 << 17} {
		wantNotOpened(t, fmt.Sprintf("%d bytes, never formatted", n), disk.New(n), api.ErrNone)
		wantNotOpened(t, fmt.Sprintf("%d bytes of junk", n), holding(t, strings.Repeat("x", n)), api.ErrNone)
	}
	for _, bytes := range []string{both(40, "\x00"+written(1, "s"), "\x00"+written(1, "s")), zeros(1) + written(1, "s"), zeros(40) + "\xa5" + filled(written(1, "s"), 39), written(1, "s") + "123"} {
		wantNotOpened(t, "a log at a wrong place", holding(t, bytes), api.ErrNone)
	}
}

// noHeads are strings that have a record, and are no head.
func noHeads() []string {
	return []string{
		"\x00", "\x01", "\x05", "\x80", "s", // a number alone, or a part of one
		"\x00\x00", "\x00\x01s", "\x00\x02ss", // the epoch 0
		"\x01\x01", "\x01\x02s", "\x01\x05abc", "\x01\x80", "\x01\xff\xff\x03s", // a part of a snapshot
		"\x01\x00s", "\x01\x01ss", "\x01\x01s\x00", "\x01\x00\x00", // more than a snapshot
		"\x81\x00\x01s", "\x80\x00\x01s", "\x01\x81\x00s", "\x01\x80\x00", // numbers that are too long
		"\xff\xff\xff\xff\xff\xff\xff\xff\xff\x02\x00", "\x80\x80\x80\x80\x80\x80\x80\x80\x80\x80\x01\x00", // more than 64 bits
		"\x01\xff\xff\xff\xff\xff\xff\xff\xff\xff\x01s", "\x01\xff\xff\xff\xff\xff\xff\xff\xff\x7fs", // an endless snapshot
	}
}

func TestOpenOfAHalfWhoseFirstStringIsNoHead(t *testing.T) {
	for _, s := range noHeads() {
		what := fmt.Sprintf("%x", s)
		for _, behind := range []string{"", record("x"), written(9, "s"), written(9, "s", "x")} {
			bad := record(s) + behind
			wantNotOpened(t, what, holding(t, both(60, bad, bad)), api.ErrNone)
			wantNotOpened(t, what, holding(t, both(60, "", bad)), api.ErrNone)
			wantNotOpened(t, what, holding(t, both(60, bad, "")), api.ErrNone)
			wantFound(t, what+" in the first half", holding(t, both(60, bad, written(1, "t", "y"))), found(1, "t", "y"))
			wantFound(t, what+" in the second half", holding(t, both(60, written(1, "t", "y"), bad)), found(1, "t", "y"))
		}
		wantFound(t, what+" as a record", holding(t, both(60, written(1, "t", s), "")), found(1, "t", s))
	}
}

func TestOpenOfAHalfWhoseHeadIsTorn(t *testing.T) {
	r := written(9, "snapshot")
	for i := range len(r) {
		wantFound(t, "a head that is cut off", holding(t, both(60, r[:i], written(1, "t"))), found(1, "t"))
		wantFound(t, "a head with bytes 0", holding(t, both(60, written(1, "t"), zeros(i+1)+r[i+1:]+record("x"))), found(1, "t"))
		b := []byte(r)
		b[i] ^= 0x10
		wantFound(t, "a head with a bit turned", holding(t, both(60, string(b), written(1, "t"))), found(1, "t"))
		wantNotOpened(t, "a head with a bit turned", holding(t, both(60, string(b), "")), api.ErrNone)
	}
}

func TestOpenSelectsTheGreaterEpoch(t *testing.T) {
	epochs := []uint64{1, 2, 127, 128, 255, 256, 1 << 14, 1<<31 - 1, 1 << 31, 1 << 32, 1<<63 - 1, 1 << 63, math.MaxUint64 - 1, math.MaxUint64}
	for _, a := range epochs {
		for _, b := range epochs {
			d := holding(t, both(60, written(a, "first", "x"), written(b, "second", "y", "z")))
			want := found(a, "first", "x")
			if b > a {
				want = found(b, "second", "y", "z")
			}
			wantFound(t, fmt.Sprintf("epochs %d and %d", a, b), d, want)
		}
		wantFound(t, "the first half alone", holding(t, both(60, written(a, "first"), "")), found(a, "first"))
		wantFound(t, "the second half alone", holding(t, both(60, "", written(a, "second", "y"))), found(a, "second", "y"))
	}
}

func TestOpenOfADiskWithAnOddNumberOfBytes(t *testing.T) {
	d := holding(t, both(32, written(1, "s", "a"), written(2, "t", "b", "c"))+"!")
	wantFound(t, "an odd number of bytes", d, found(2, "t", "b", "c"))
	wantBytes(t, "an odd number of bytes", d, both(32, written(1, "s", "a"), written(2, "t", "b", "c"))+"!")
	// The byte behind both halves belongs to no record.
	whole := written(2, "t", "b")
	wantNotOpened(t, "a head that needs it", holding(t, zeros(10)+written(2, "t")), api.ErrNone)
	wantFound(t, "a record that needs it", holding(t, zeros(len(whole)-1)+whole), found(2, "t"))
}

func TestOpenOverwritesWhatIsBehindTheRecords(t *testing.T) {
	other := written(1, "s") + "behind the other"
	for _, behind := range []string{"", "x", "\x00x", "\xa5", "\xa5\x01\x00", record("torn")[:6], "\x00" + record("whole"), record("torn")[:11] + "\x00" + record("whole"), strings.Repeat("x", 40)} {
		here := written(2, "t", "a", "b") + behind
		want := written(2, "t", "a", "b")
		d := holding(t, both(70, other, here)+"!")
		wantFound(t, brief(behind), d, found(2, "t", "a", "b"))
		wantBytes(t, brief(behind), d, both(70, other, want)+"!")
		d = holding(t, both(70, here, other)+"!")
		wantFound(t, brief(behind), d, found(2, "t", "a", "b"))
		wantBytes(t, brief(behind), d, both(70, want, other)+"!")
	}
}

func TestOpenPerformsItsStepsInOrder(t *testing.T) {
	other, full := written(1, "s", "old"), written(2, "t", "ab")
	for _, c := range []struct {
		bytes    string
		at, size int
	}{
		{both(30, full+"behind", other) + "!", 21, 9},
		{both(30, other, full+"behind") + "!", 51, 9},
		{both(30, full, other), 21, 9},
		{both(21, full, ""), 21, 0},
		{both(21, "", full), 42, 0},
		{both(21, "", full) + "!", 42, 0},
	} {
		var l *halves.Log
		var f api.Found
		prepare := func(d *disk.Disk) func() api.Errno {
			return func() (err api.Errno) {
				l, f, err = halves.Open(d)
				return err
			}
		}
		wantSteps(t, "Open of "+brief(c.bytes), c.bytes, []step{write(c.at, zeros(c.size)), sync()}, prepare, func(what string) {
			if l != nil || !same(f, api.Found{}) {
				t.Errorf("%s: %v, %s beside the error", what, l != nil, tell(f))
			}
		})
		wantLog(t, brief(c.bytes), l, 2, c.size, false)
	}
}

func TestOpenReturnsWhatBelongsToTheCaller(t *testing.T) {
	d := holding(t, both(60, written(1, "s", "a", "b"), ""))
	l, f, _ := halves.Open(d)
	f.Records[0] = "changed"
	f.Records = append(f.Records[:1], "more")
	wantCode(t, "c", l.Append("c"), api.OK)
	wantFound(t, "afterwards", d, found(1, "s", "a", "b", "c"))
}

func TestOpenFindsSnapshotsAndRecordsOfAllBytes(t *testing.T) {
	all := make([]byte, 256)
	for i := range all {
		all[i] = byte(i)
	}
	l, d := formatted(t, 4096, string(all))
	records := []string{string(all), "\x00", "\xa5", "\x5a", zeros(20), record("x"), written(99, "inside")}
	for _, s := range records {
		wantCode(t, brief(s), l.Append(s), api.OK)
	}
	wantFound(t, "all bytes", d, found(1, string(all), records...))
}

func TestOpenedLogContinues(t *testing.T) {
	for _, bytes := range []string{both(60, written(5, "s", "a"), written(4, "old")), both(60, written(4, "old"), written(5, "s", "a")), both(60, written(5, "s", "a")+"behind", written(5, "t"))} {
		d := holding(t, bytes)
		l := opened(t, d)
		wantCode(t, "b", l.Append("b"), api.OK)
		wantFound(t, "appended", d, found(5, "s", "a", "b"))
		wantCode(t, "u", l.Snap("u"), api.OK)
		wantCode(t, "c", l.Append("c"), api.OK)
		wantFound(t, "a snapshot", d, found(6, "u", "c"))
		wantCode(t, "v", l.Snap("v"), api.OK)
		wantFound(t, "one more", d, found(7, "v"))
	}
}

// P5.3: Append

func TestAppendWritesBehindAllOthers(t *testing.T) {
	l, d := formatted(t, 401, "s")
	records := []string{}
	for i := range 10 {
		s := strings.Repeat("x", i+1)
		wantCode(t, s, l.Append(s), api.OK)
		records = append(records, s)
		all := written(1, "s", records...)
		wantBytes(t, s, d, filled(all, 401))
		wantLog(t, s, l, 1, 200-len(all), false)
		if d.Crash(0) != 0 {
			t.Errorf("%s is not durable", s)
		}
	}
	wantFound(t, "all", d, found(1, "s", records...))
}

func TestAppendOfARecordThatFillsTheRoom(t *testing.T) {
	for _, n := range []int{60, 61, 64, 65, 300} {
		for _, before := range []string{"", "a", "abc"} {
			l, d := formatted(t, n, "s")
			records := []string{}
			if before != "" {
				l.Append(before)
				records = append(records, before)
			}
			s := strings.Repeat("x", n/2-len(written(1, "s", records...))-8)
			what := fmt.Sprintf("%d bytes, behind %q", n, before)
			if s != "" {
				wantCode(t, what+", a byte more", l.Append(s+"x"), api.ErrFull)
				wantFound(t, what+", a byte more", d, found(1, "s", records...))
				wantLog(t, what+", a byte more", l, 1, len(s)+8, false)
				wantCode(t, what, l.Append(s), api.OK)
				records = append(records, s)
				wantLog(t, what, l, 1, 0, false)
			}
			wantCode(t, what+", and no room is left", l.Append("x"), api.ErrFull)
			wantFound(t, what, d, found(1, "s", records...))
		}
	}
}

func TestAppendOfStringsWithoutRecord(t *testing.T) {
	large, largeDisk := formatted(t, 1<<17, "s")
	small, smallDisk := formatted(t, 22, "s")
	for _, s := range []string{"", strings.Repeat("x", most+1), strings.Repeat("x", 1<<16), strings.Repeat("x", 1<<16+1), strings.Repeat("x", 1<<17)} {
		wantCode(t, "room is left", large.Append(s), api.ErrArg)
		wantCode(t, "no room is left", small.Append(s), api.ErrArg)
	}
	wantLog(t, "a large disk", large, 1, 1<<16-11, false)
	wantLog(t, "a small disk", small, 1, 0, false)
	wantBytes(t, "a small disk", smallDisk, filled(written(1, "s"), 22))
	long := strings.Repeat("x", most)
	wantCode(t, "the greatest length", large.Append(long), api.OK)
	wantCode(t, "the greatest length, once more", large.Append(long), api.ErrFull)
	wantFound(t, "the greatest length", largeDisk, found(1, "s", long))
}

func TestAppendPerformsItsStepsInOrder(t *testing.T) {
	for _, c := range []struct {
		bytes, s string
		at       int
		epoch    uint64
	}{
		{both(40, written(1, "s"), ""), "third", 11, 1},
		{both(40, written(1, "s", "a"), "junk") + "!", "b", 20, 1},
		{both(40, written(1, "s", "old", "old"), written(2, "t", "a")), "\x00\x00", 60, 2},
		{both(40, written(1, "s"), ""), strings.Repeat("x", 21), 11, 1},
	} {
		var l *halves.Log
		prepare := func(d *disk.Disk) func() api.Errno {
			l = opened(t, d)
			return func() api.Errno { return l.Append(c.s) }
		}
		wantSteps(t, "Append", c.bytes, []step{write(c.at, record(c.s)), sync()}, prepare, func(what string) {
			wantBroken(t, what, l, c.epoch)
		})
		wantLog(t, "Append", l, c.epoch, 40-c.at%40-len(record(c.s)), false)
	}
}

// P5.3: Snap

func TestSnapContinuesInTheOtherHalf(t *testing.T) {
	l, d := formatted(t, 81, "s0")
	l.Append("x0")
	here := []string{written(1, "s0", "x0"), ""}
	for i := 1; i < 300; i++ {
		snap, rec := fmt.Sprintf("s%d", i), fmt.Sprintf("x%d", i)
		epoch := uint64(i + 1)
		wantCode(t, snap, l.Snap(snap), api.OK)
		here[i%2] = written(epoch, snap)
		wantBytes(t, snap, d, both(40, here[0], here[1])+"\x00")
		wantLog(t, snap, l, epoch, 40-len(written(epoch, snap)), false)
		wantFound(t, snap, d, found(epoch, snap))
		wantCode(t, rec, l.Append(rec), api.OK)
		here[i%2] = written(epoch, snap, rec)
		wantBytes(t, rec, d, both(40, here[0], here[1])+"\x00")
		wantFound(t, rec, d, found(epoch, snap, rec))
		if d.Crash(0) != 0 {
			t.Errorf("%s is not durable", rec)
		}
	}
}

func TestSnapMakesRoom(t *testing.T) {
	l, d := formatted(t, 64, "s")
	wantCode(t, "x", l.Append("x"), api.OK)
	wantCode(t, "x", l.Append("x"), api.OK)
	wantCode(t, "x, once more", l.Append("x"), api.ErrFull)
	wantLog(t, "full", l, 1, 3, false)
	wantCode(t, "a snapshot of a full log", l.Snap("t"), api.OK)
	wantLog(t, "anew", l, 2, 21, false)
	wantCode(t, "y", l.Append("y"), api.OK)
	wantFound(t, "anew", d, found(2, "t", "y"))
}

func TestSnapWithAHeadThatFillsAHalf(t *testing.T) {
	for odd := range 2 {
		l, d := formatted(t, 60+odd, "s")
		l.Append("a")
		snap := strings.Repeat("t", 20)
		wantCode(t, "a byte more", l.Snap(snap+"t"), api.ErrFull)
		wantCode(t, "many bytes more", l.Snap(strings.Repeat("t", 1000)), api.ErrFull)
		wantLog(t, "a byte more", l, 1, 10, false)
		wantBytes(t, "a byte more", d, filled(written(1, "s", "a"), 60+odd))
		wantCode(t, "just enough", l.Snap(snap), api.OK)
		wantLog(t, "just enough", l, 2, 0, false)
		wantFound(t, "just enough", d, found(2, snap))
		wantCode(t, "once more", l.Snap(snap), api.OK)
		wantFound(t, "once more", d, found(3, snap))
	}
	// The epoch 128 has a byte more than 127.
	l := opened(t, holding(t, both(30, written(126, ""), "")))
	snap := strings.Repeat("t", 20)
	wantCode(t, "epoch 127", l.Snap(snap), api.OK)
	wantCode(t, "epoch 128", l.Snap(snap), api.ErrFull)
	wantCode(t, "epoch 128, a byte less", l.Snap(snap[1:]), api.OK)
	wantLog(t, "epoch 128", l, 128, 0, false)
}

func TestSnapWithAHeadWithoutRecord(t *testing.T) {
	l, d := formatted(t, 1<<17, "s")
	l.Append("a")
	snap := strings.Repeat("t", most-4)
	for _, more := range []int{1, 2, most, 1 << 16, 1 << 17} {
		wantCode(t, "a head without record", l.Snap(snap+strings.Repeat("t", more)), api.ErrFull)
	}
	wantLog(t, "a head without record", l, 1, 1<<16-20, false)
	wantFound(t, "a head without record", d, found(1, "s", "a"))
	wantCode(t, "the greatest head", l.Snap(snap), api.OK)
	wantFound(t, "the greatest head", d, found(2, snap))
}

func TestSnapBeyondTheLastEpoch(t *testing.T) {
	d := holding(t, both(40, written(math.MaxUint64-1, "s"), ""))
	l := opened(t, d)
	wantCode(t, "the last epoch", l.Snap("t"), api.OK)
	bytes := both(40, written(math.MaxUint64-1, "s"), written(math.MaxUint64, "t"))
	for _, snap := range []string{"", "u", strings.Repeat("u", 1<<17)} {
		wantCode(t, "beyond", l.Snap(snap), api.ErrFull)
		wantLog(t, "beyond", l, math.MaxUint64, 40-len(written(math.MaxUint64, "t")), false)
		wantBytes(t, "beyond", d, bytes)
	}
	wantCode(t, "a record", l.Append("x"), api.OK)
	wantFound(t, "the last epoch", d, found(math.MaxUint64, "t", "x"))
}

func TestSnapPerformsItsStepsInOrder(t *testing.T) {
	full, old := written(2, "t", "a"), written(1, "s", "old", "x")
	for _, c := range []struct {
		bytes string
		other int
	}{
		{both(40, full, ""), 40},
		{both(40, full, old) + "!", 40},
		{both(40, old, full) + "!", 0},
		{both(40, strings.Repeat("j", 40), full), 0},
		{both(40, full, written(2, "same")), 40},
	} {
		var l *halves.Log
		prepare := func(d *disk.Disk) func() api.Errno {
			l = opened(t, d)
			return func() api.Errno { return l.Snap("new") }
		}
		steps := []step{write(c.other, zeros(40)), sync(), write(c.other, written(3, "new")), sync()}
		wantSteps(t, "Snap", c.bytes, steps, prepare, func(what string) {
			wantBroken(t, what, l, 2)
		})
		wantLog(t, "Snap", l, 3, 40-len(written(3, "new")), false)
	}
}

// P5.3: broken logs

// wantBroken asks for what the calls of a broken log return.
func wantBroken(t *testing.T, what string, l *halves.Log, epoch uint64) {
	t.Helper()
	wantLog(t, what, l, epoch, 0, true)
	for _, s := range []string{"", "x", strings.Repeat("x", most), strings.Repeat("x", most+1)} {
		wantCode(t, what+": Append", l.Append(s), api.ErrState)
		wantCode(t, what+": Snap", l.Snap(s), api.ErrState)
	}
	wantLog(t, what, l, epoch, 0, true)
}

func TestBrokenLogStaysBroken(t *testing.T) {
	for _, call := range []func(l *halves.Log) api.Errno{
		func(l *halves.Log) api.Errno { return l.Append("x") },
		func(l *halves.Log) api.Errno { return l.Snap("x") },
	} {
		for n := 1; n <= 2; n++ {
			l, d := formatted(t, 64, "s")
			d.Break(n)
			wantCode(t, "a disk that breaks", call(l), api.ErrIO)
			wantBroken(t, "a broken disk", l, 1)
			d.Crash(0)
			wantBroken(t, "behind a crash", l, 1)
			wantBytes(t, "behind a crash", d, filled(written(1, "s"), 64))
			m := opened(t, d)
			wantCode(t, "the opened one", m.Append("y"), api.OK)
			wantBroken(t, "beside the opened one", l, 1)
			wantFound(t, "the opened one", d, found(1, "s", "y"))
		}
	}
	l, d := formatted(t, 64, "s")
	m := opened(t, holding(t, both(32, written(math.MaxUint64, ""), "")))
	d.Break(1)
	d.Sync()
	wantLog(t, "a log that did not use the broken disk yet", l, 1, 21, false)
	wantCode(t, "no record", l.Append(""), api.ErrArg)
	wantCode(t, "no room", l.Append(strings.Repeat("x", 100)), api.ErrFull)
	wantCode(t, "no room", l.Snap(strings.Repeat("x", 100)), api.ErrFull)
	wantLog(t, "calls that did not use it either", l, 1, 21, false)
	wantCode(t, "a record", l.Append("x"), api.ErrIO)
	wantBroken(t, "a call that used it", l, 1)
	wantLog(t, "a log of another disk", m, math.MaxUint64, 32-len(written(math.MaxUint64, "")), false)
}

// A nil Log, and one that nobody opened

func TestNilLog(t *testing.T) {
	var l *halves.Log
	for _, s := range []string{"", "x", strings.Repeat("x", most+1)} {
		wantCode(t, "Append", l.Append(s), api.ErrState)
		wantCode(t, "Snap", l.Snap(s), api.ErrState)
	}
	wantLog(t, "nil", l, 0, 0, false)
}

func TestLogWithoutADisk(t *testing.T) {
	l := new(halves.Log)
	for _, s := range []string{"", "x", strings.Repeat("x", most+1)} {
		if l.Append(s) == api.OK || l.Snap(s) == api.OK {
			t.Errorf("a log without a disk takes %s", brief(s))
		}
	}
	wantLog(t, "without a disk", l, 0, 0, false)
}

func TestLogsOfTwoDisksHaveNothingInCommon(t *testing.T) {
	a, d := formatted(t, 64, "s")
	b, e := formatted(t, 64, "t")
	a.Append("x")
	wantLog(t, "the other log", b, 1, 21, false)
	b.Snap("u")
	d.Break(1)
	a.Append("y")
	wantBroken(t, "one", a, 1)
	wantCode(t, "the other log", b.Append("z"), api.OK)
	wantFound(t, "the other log", e, found(2, "u", "z"))
}
