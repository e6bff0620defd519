package disk_test

import (
	"fmt"
	"math"
	"math/rand"
	"strings"
	"testing"

	"homecoming/api"
	"homecoming/disk"
)

// fresh is a new disk of n bytes.
func fresh(t *testing.T, n int) *disk.Disk {
	t.Helper()
	d := disk.New(n)
	if d == nil {
		t.Fatalf("New(%d) is nil", n)
	}
	return d
}

func wantCode(t *testing.T, what string, got, want api.Errno) {
	t.Helper()
	if got != want {
		t.Errorf("%s: %d, want %d", what, int(got), int(want))
	}
}

func wantNumber(t *testing.T, what string, got, want int) {
	t.Helper()
	if got != want {
		t.Errorf("%s: %d, want %d", what, got, want)
	}
}

func wantBroken(t *testing.T, what string, d *disk.Disk, want bool) {
	t.Helper()
	if got := d.Broken(); got != want {
		t.Errorf("%s: Broken is %v, want %v", what, got, want)
	}
}

// wantRead asks for the bytes from at on.
func wantRead(t *testing.T, what string, d *disk.Disk, at int, want string) {
	t.Helper()
	got, err := d.Read(at, len(want))
	if err != api.OK || got != want {
		t.Errorf("%s: Read(%d, %d) is %q, %d, want %q", what, at, len(want), got, int(err), want)
	}
}

// wantNoRead asks for an error, and for no bytes beside it.
func wantNoRead(t *testing.T, what string, d *disk.Disk, at, n int, want api.Errno) {
	t.Helper()
	got, err := d.Read(at, n)
	if err != want || got != "" {
		t.Errorf("%s: Read(%d, %d) is %q, %d, want nothing and %d", what, at, n, got, int(err), int(want))
	}
}

// P2.1: New, Size

func TestNewOfASizeThatExists(t *testing.T) {
	for _, n := range []int{1, 2, 3, 64, 1000, 1<<17 - 1, 1 << 17} {
		d := fresh(t, n)
		wantNumber(t, "Size", d.Size(), n)
		wantNumber(t, "Pending", d.Pending(), 0)
		wantBroken(t, "a new disk", d, false)
		wantRead(t, "a new disk", d, 0, strings.Repeat("\x00", n))
		wantCode(t, "Write of all bytes", d.Write(0, strings.Repeat("x", n)), api.OK)
		wantCode(t, "Write of one more", d.Write(0, strings.Repeat("x", n+1)), api.ErrArg)
		wantNoRead(t, "one more", d, 0, n+1, api.ErrArg)
	}
}

func TestNewOfASizeThatDoesNotExist(t *testing.T) {
	for _, n := range []int{0, -1, -8, math.MinInt, 1<<17 + 1, 1 << 18, math.MaxInt} {
		if disk.New(n) != nil {
			t.Errorf("New(%d) is not nil", n)
		}
	}
}

func TestNewDisksHaveNothingInCommon(t *testing.T) {
	a, b := fresh(t, 4), fresh(t, 4)
	a.Write(0, "abcd")
	a.Sync()
	a.Write(0, "x")
	a.Break(1)
	a.Sync()
	wantRead(t, "the other disk", b, 0, "\x00\x00\x00\x00")
	wantNumber(t, "its Pending", b.Pending(), 0)
	wantBroken(t, "the other disk", b, false)
	wantCode(t, "its Sync", b.Sync(), api.OK)
}

// P2.1: Write, Read

// places are places and lengths on a disk of eight bytes, and whether they lie inside of it.
var places = []struct {
	at, n  int
	inside bool
}{
	{0, 0, true}, {0, 1, true}, {0, 8, true}, {3, 5, true}, {7, 1, true}, {7, 0, true}, {8, 0, true},
	{0, 9, false}, {1, 8, false}, {7, 2, false}, {8, 1, false}, {9, 0, false}, {9, 1, false},
	{-1, 0, false}, {-1, 1, false}, {-1, 9, false}, {-8, 8, false}, {0, 100, false}, {100, 0, false}, {-100, 100, false},
	{math.MaxInt, 0, false}, {math.MaxInt, 1, false}, {math.MinInt, 0, false}, {math.MinInt, 1, false}, {math.MinInt, 8, false},
}

func TestWriteAtAllPlaces(t *testing.T) {
	for _, p := range places {
		d := fresh(t, 8)
		d.Write(0, "abcdefgh")
		what, s := fmt.Sprintf("Write(%d, %d bytes)", p.at, p.n), strings.Repeat("X", p.n)
		if !p.inside {
			wantCode(t, what, d.Write(p.at, s), api.ErrArg)
			wantRead(t, what, d, 0, "abcdefgh")
			wantNumber(t, "Pending after "+what, d.Pending(), 8)
			continue
		}
		wantCode(t, what, d.Write(p.at, s), api.OK)
		wantRead(t, what, d, 0, "abcdefgh"[:p.at]+s+"abcdefgh"[p.at+p.n:])
		wantNumber(t, "Pending after "+what, d.Pending(), 8+p.n)
	}
}

func TestReadAtAllPlaces(t *testing.T) {
	d := fresh(t, 8)
	d.Write(0, "abcdefgh")
	for _, p := range places {
		if p.inside {
			wantRead(t, "inside", d, p.at, "abcdefgh"[p.at:p.at+p.n])
		} else {
			wantNoRead(t, "outside", d, p.at, p.n, api.ErrArg)
		}
	}
}

func TestReadOfALengthThatDoesNotExist(t *testing.T) {
	d := fresh(t, 8)
	for _, n := range []int{-1, -8, math.MinInt, math.MinInt + 1, math.MaxInt} {
		for _, at := range []int{0, 1, 8, 9, -1, math.MaxInt, math.MinInt} {
			wantNoRead(t, "a length", d, at, n, api.ErrArg)
		}
	}
}

func TestReadReturnsTheBytesAfterAllWrites(t *testing.T) {
	d := fresh(t, 8)
	d.Write(0, "abcdefgh")
	d.Sync()
	d.Write(2, "123")
	d.Write(4, "xyz")
	d.Write(3, "")
	d.Write(0, "\xff\x00")
	wantRead(t, "pending writes over durable bytes", d, 0, "\xff\x0012xyzh")
	wantRead(t, "a piece", d, 3, "2xy")
	wantRead(t, "nothing", d, 8, "")
	wantRead(t, "once more", d, 0, "\xff\x0012xyzh")
}

func TestReadReturnsWhatLaterWritesDoNotChange(t *testing.T) {
	d := fresh(t, 4)
	d.Write(0, "abcd")
	s, _ := d.Read(0, 4)
	d.Write(0, "wxyz")
	d.Sync()
	if s != "abcd" {
		t.Errorf("what was read is %q now", s)
	}
}

// P2.1: Sync, Pending

func TestSyncMakesAllWritesDurable(t *testing.T) {
	d := fresh(t, 6)
	d.Write(0, "abc")
	d.Write(2, "XY")
	wantNumber(t, "Pending", d.Pending(), 5)
	wantCode(t, "Sync", d.Sync(), api.OK)
	wantNumber(t, "Pending after Sync", d.Pending(), 0)
	wantRead(t, "after Sync", d, 0, "abXY\x00\x00")
	wantNumber(t, "bytes lost behind Sync", d.Crash(0), 0)
	wantRead(t, "after a crash", d, 0, "abXY\x00\x00")
	wantCode(t, "Sync of nothing", d.Sync(), api.OK)
	wantRead(t, "after Sync of nothing", d, 0, "abXY\x00\x00")
}

func TestSyncDoesNotKeepOldWritesPending(t *testing.T) {
	d := fresh(t, 4)
	d.Write(0, "abcd")
	d.Sync()
	d.Write(0, "x")
	wantNumber(t, "Pending", d.Pending(), 1)
	wantNumber(t, "bytes lost", d.Crash(-1), 1)
	wantRead(t, "after a crash", d, 0, "abcd")
}

func TestPendingIsTheTotalOfAllWrites(t *testing.T) {
	d := fresh(t, 4)
	sum := 0
	for i, s := range []string{"", "a", "ab", "", "abcd", "abcd", "abc"} {
		d.Write(0, s)
		sum += len(s)
		wantNumber(t, fmt.Sprintf("Pending after write %d", i), d.Pending(), sum)
	}
}

// P2.1: Break, Broken

// steps are a Write and a Sync, with and without bytes.
func steps() []func(d *disk.Disk) api.Errno {
	return []func(d *disk.Disk) api.Errno{
		func(d *disk.Disk) api.Errno { return d.Write(0, "ab") },
		func(d *disk.Disk) api.Errno { return d.Sync() },
		func(d *disk.Disk) api.Errno { return d.Write(8, "") },
		func(d *disk.Disk) api.Errno { return d.Sync() },
		func(d *disk.Disk) api.Errno { return d.Write(6, "yz") },
	}
}

func TestBreakInTheStepWithThisNumber(t *testing.T) {
	for n := 1; n <= len(steps())+1; n++ {
		d := fresh(t, 8)
		d.Break(n)
		for i, step := range steps() {
			what, down := fmt.Sprintf("Break(%d), step %d", n, i+1), i+1 >= n
			want := api.OK
			if down {
				want = api.ErrIO
			}
			wantBroken(t, "ahead of "+what, d, i+1 > n)
			wantCode(t, what, step(d), want)
			wantBroken(t, what, d, down)
		}
	}
}

func TestBreakWithNoStepDoesNotBreak(t *testing.T) {
	for _, n := range []int{0, -1, -2, math.MinInt, math.MaxInt} {
		d := fresh(t, 8)
		d.Break(n)
		for range 4 {
			for i, step := range steps() {
				wantCode(t, fmt.Sprintf("Break(%d), step %d", n, i+1), step(d), api.OK)
			}
		}
		wantBroken(t, "in the end", d, false)
	}
}

func TestBreakCountsFromTheLastCallOn(t *testing.T) {
	for _, first := range []int{1, 2, 3, 9} {
		d := fresh(t, 8)
		d.Break(first)
		d.Break(0)
		wantCode(t, "a step that was to break", d.Write(0, "a"), api.OK)
		d.Break(first)
		d.Break(2)
		wantCode(t, "the next step", d.Write(0, "a"), api.OK)
		wantCode(t, "the second step", d.Write(0, "a"), api.ErrIO)
	}
	d := fresh(t, 8)
	d.Break(3)
	d.Sync()
	d.Break(3)
	wantCode(t, "step 1 from there on", d.Sync(), api.OK)
	wantCode(t, "step 2 from there on", d.Sync(), api.OK)
	wantCode(t, "step 3 from there on", d.Sync(), api.ErrIO)
}

func TestBreakCountsStepsAlone(t *testing.T) {
	d := fresh(t, 8)
	d.Break(1)
	for _, p := range places {
		d.Read(p.at, p.n)
		if !p.inside {
			wantCode(t, "a wrong Write", d.Write(p.at, strings.Repeat("x", p.n)), api.ErrArg)
		}
	}
	d.Read(0, -1)
	d.Size()
	d.Pending()
	wantBroken(t, "without a step", d, false)
	wantCode(t, "the first step", d.Sync(), api.ErrIO)
	wantBroken(t, "with a step", d, true)
}

func TestWriteInWhichTheDiskBreaksIsPending(t *testing.T) {
	for keep := range 6 {
		d := fresh(t, 6)
		d.Write(0, "ab")
		d.Break(1)
		wantCode(t, "Write", d.Write(2, "cde"), api.ErrIO)
		wantNumber(t, "Pending", d.Pending(), 5)
		wantNumber(t, "bytes lost", d.Crash(keep), 5-keep)
		wantRead(t, fmt.Sprintf("Crash(%d)", keep), d, 0, "abcde"[:keep]+strings.Repeat("\x00", 6-keep))
	}
}

func TestSyncInWhichTheDiskBreaksMakesNothingDurable(t *testing.T) {
	for keep := range 5 {
		d := fresh(t, 4)
		d.Write(0, "abcd")
		d.Break(1)
		wantCode(t, "Sync", d.Sync(), api.ErrIO)
		wantNumber(t, "Pending", d.Pending(), 4)
		wantNumber(t, "bytes lost", d.Crash(keep), 4-keep)
		wantRead(t, fmt.Sprintf("Crash(%d)", keep), d, 0, "abcd"[:keep]+strings.Repeat("\x00", 4-keep))
	}
}

func TestBrokenDiskDoesNothingMore(t *testing.T) {
	d := fresh(t, 8)
	d.Write(0, "ab")
	d.Sync()
	d.Write(2, "cd")
	d.Break(1)
	d.Sync()
	for _, n := range []int{0, -1, 1, 2, 100} {
		d.Break(n)
		for range 3 {
			wantCode(t, "Write", d.Write(4, "ef"), api.ErrIO)
			wantCode(t, "Write of nothing", d.Write(8, ""), api.ErrIO)
			wantCode(t, "Sync", d.Sync(), api.ErrIO)
			wantNoRead(t, "a broken disk", d, 0, 2, api.ErrIO)
			wantNoRead(t, "nothing of a broken disk", d, 8, 0, api.ErrIO)
			wantBroken(t, "a broken disk", d, true)
			wantNumber(t, "Pending", d.Pending(), 2)
			wantNumber(t, "Size", d.Size(), 8)
		}
	}
	wantNumber(t, "bytes lost", d.Crash(100), 0)
	wantRead(t, "after a crash", d, 0, "abcd\x00\x00\x00\x00")
}

func TestBrokenDiskNamesWrongArgumentsFirst(t *testing.T) {
	d := fresh(t, 8)
	d.Break(1)
	d.Sync()
	for _, p := range places {
		want := api.ErrArg
		if p.inside {
			want = api.ErrIO
		}
		wantCode(t, fmt.Sprintf("Write(%d, %d bytes)", p.at, p.n), d.Write(p.at, strings.Repeat("x", p.n)), want)
		wantNoRead(t, "a broken disk", d, p.at, p.n, want)
	}
	wantNoRead(t, "a broken disk", d, 0, -1, api.ErrArg)
}

// P2.2

func TestCrashOfTheDocumentsExample(t *testing.T) {
	d := fresh(t, 8)
	wantCode(t, "Write(0, abc)", d.Write(0, "abc"), api.OK)
	wantNumber(t, "Crash(2)", d.Crash(2), 1)
	wantRead(t, "after Crash(2)", d, 0, "ab\x00")
}

func TestCrashKeepsTheFirstBytes(t *testing.T) {
	writes := []struct {
		at int
		s  string
	}{{2, "abc"}, {0, ""}, {4, "XY"}, {0, "1234"}, {8, ""}, {7, "z"}}
	for _, keep := range []int{math.MinInt, -1, 0, 1, 2, 3, 4, 5, 6, 7, 8, 9, 10, 11, 12, 100, math.MaxInt} {
		d, want, left := fresh(t, 8), []byte("--------"), max(keep, 0)
		d.Write(0, string(want))
		d.Sync()
		lost := 0
		for _, w := range writes {
			d.Write(w.at, w.s)
			for i := range len(w.s) {
				if left > 0 {
					want[w.at+i] = w.s[i]
					left--
				} else {
					lost++
				}
			}
		}
		what := fmt.Sprintf("Crash(%d)", keep)
		wantNumber(t, what, d.Crash(keep), lost)
		wantRead(t, what, d, 0, string(want))
		wantNumber(t, "Pending after "+what, d.Pending(), 0)
		wantNumber(t, "a second crash after "+what, d.Crash(0), 0)
		wantRead(t, "a second crash after "+what, d, 0, string(want))
	}
}

func TestCrashMakesWhatItKeepsDurable(t *testing.T) {
	d := fresh(t, 4)
	d.Write(0, "abcd")
	d.Crash(3)
	d.Write(0, "wxyz")
	wantNumber(t, "bytes lost", d.Crash(1), 3)
	wantRead(t, "after two crashes", d, 0, "wbc\x00")
}

func TestCrashOfADiskWithoutWrites(t *testing.T) {
	for _, keep := range []int{math.MinInt, -1, 0, 1, math.MaxInt} {
		d := fresh(t, 3)
		wantNumber(t, "a new disk", d.Crash(keep), 0)
		wantRead(t, "a new disk", d, 0, "\x00\x00\x00")
	}
}

func TestCrashMendsTheDisk(t *testing.T) {
	for _, keep := range []int{-1, 0, 1, 9} {
		d := fresh(t, 8)
		d.Break(1)
		d.Write(0, "a")
		wantBroken(t, "ahead of a crash", d, true)
		d.Break(1)
		d.Crash(keep)
		wantBroken(t, "behind a crash", d, false)
		for range 4 {
			for i, step := range steps() {
				wantCode(t, fmt.Sprintf("step %d behind a crash", i+1), step(d), api.OK)
			}
		}
		wantBroken(t, "behind the steps", d, false)
	}
}

func TestCrashOfAWholeDiskWillNotBreakItLater(t *testing.T) {
	for n := 1; n <= 5; n++ {
		d := fresh(t, 8)
		d.Break(n)
		d.Crash(0)
		for i, step := range steps() {
			wantCode(t, fmt.Sprintf("Break(%d), Crash, step %d", n, i+1), step(d), api.OK)
		}
		d.Break(1)
		wantCode(t, "Break behind a crash", d.Sync(), api.ErrIO)
	}
}

// P2.3

func TestDurableBytesRemain(t *testing.T) {
	const text = "what was synced once"
	for at := range len(text) + 1 {
		for steps := range 4 {
			d := fresh(t, len(text))
			d.Write(0, text)
			d.Sync()
			d.Break(steps)
			d.Write(at, "####"[:min(4, len(text)-at)])
			d.Write(0, "#")
			d.Crash(0)
			wantRead(t, fmt.Sprintf("lost writes at %d, Break(%d)", at, steps), d, 0, text)
		}
	}
}

func TestDurableBytesRemainExceptWhereTheyAreOverwritten(t *testing.T) {
	const text = "what was synced once"
	for at := range len(text) {
		d := fresh(t, len(text))
		d.Write(0, text)
		d.Sync()
		d.Write(at, "#")
		d.Sync()
		d.Crash(0)
		wantRead(t, fmt.Sprintf("a byte at %d", at), d, 0, text[:at]+"#"+text[at+1:])
	}
}

// A nil Disk

func TestNilDisk(t *testing.T) {
	var d *disk.Disk
	for _, n := range []int{math.MinInt, -1, 0, 1, math.MaxInt} {
		d.Break(n)
		wantBroken(t, "nil", d, false)
		wantNumber(t, "Crash", d.Crash(n), 0)
		wantCode(t, "Write", d.Write(n, ""), api.ErrArg)
		wantCode(t, "Write", d.Write(n, "a"), api.ErrArg)
		wantNoRead(t, "nil", d, n, 0, api.ErrArg)
		wantNoRead(t, "nil", d, 0, n, api.ErrArg)
		wantCode(t, "Sync", d.Sync(), api.ErrArg)
		wantNumber(t, "Size", d.Size(), 0)
		wantNumber(t, "Pending", d.Pending(), 0)
	}
}

// All promises, together

// placed is one byte of a pending write.
type placed struct {
	at int
	b  byte
}

// model is a disk by the document's words: it has its pending bytes one by one, and reads through them.
type model struct {
	durable []byte
	pending []placed
	left    int
	broken  bool
}

func (m *model) step() api.Errno {
	m.left--
	if m.left == 0 {
		m.broken = true
	}
	if m.broken {
		return api.ErrIO
	}
	return api.OK
}

func (m *model) write(at int, s string) api.Errno {
	if at < 0 || at > len(m.durable)-len(s) {
		return api.ErrArg
	}
	for i := 0; i < len(s) && !m.broken; i++ {
		m.pending = append(m.pending, placed{at + i, s[i]})
	}
	return m.step()
}

func (m *model) read(at, n int) (string, api.Errno) {
	if n < 0 || at < 0 || at > len(m.durable)-n {
		return "", api.ErrArg
	}
	if m.broken {
		return "", api.ErrIO
	}
	l := append([]byte{}, m.durable...)
	for _, p := range m.pending {
		l[p.at] = p.b
	}
	return string(l[at : at+n]), api.OK
}

func (m *model) sync() api.Errno {
	err := m.step()
	if err == api.OK {
		m.settle(len(m.pending))
	}
	return err
}

func (m *model) crash(keep int) int {
	n := min(max(keep, 0), len(m.pending))
	lost := len(m.pending) - n
	m.settle(n)
	m.left, m.broken = 0, false
	return lost
}

func (m *model) settle(n int) {
	for _, p := range m.pending[:n] {
		m.durable[p.at] = p.b
	}
	m.pending = nil
}

// compare performs one operation after the other, each of three bytes, on a disk and on the model.
func compare(t *testing.T, size int, script []byte) {
	t.Helper()
	d, m := fresh(t, size), &model{durable: make([]byte, size)}
	for i := 0; i+3 <= len(script); i += 3 {
		a, b := int(int8(script[i+1])), int(int8(script[i+2]))
		what := fmt.Sprintf("operation %d (%d, %d, %d)", i/3, script[i]%8, a, b)
		switch script[i] % 8 {
		case 0, 1, 2:
			s := strings.Repeat(string(script[i:i+1]), max(b, 0)%9)
			wantCode(t, what, d.Write(a, s), m.write(a, s))
		case 3:
			wantCode(t, what, d.Sync(), m.sync())
		case 4:
			wantNumber(t, what, d.Crash(a), m.crash(a))
		case 5:
			d.Break(b)
			m.left = b
		default:
			got, err := d.Read(a, b)
			want, code := m.read(a, b)
			if got != want || err != code {
				t.Errorf("%s: %q, %d, want %q, %d", what, got, int(err), want, int(code))
			}
		}
		wantNumber(t, "Pending after "+what, d.Pending(), len(m.pending))
		wantBroken(t, what, d, m.broken)
		if all, code := m.read(0, size); code == api.OK {
			wantRead(t, what, d, 0, all)
		} else {
			wantNoRead(t, what, d, 0, size, code)
		}
		if t.Failed() {
			return
		}
	}
}

func TestDiskIsTheModel(t *testing.T) {
	for seed := range int64(400) {
		r := rand.New(rand.NewSource(seed))
		script := make([]byte, 3*100)
		r.Read(script)
		for i := 1; seed%2 == 0 && i+1 < len(script); i += 3 { // so that most arguments are right
			script[i], script[i+1] = script[i]%24, script[i+1]%12
		}
		compare(t, 1+r.Intn(40), script)
		if t.Failed() {
			t.Fatalf("seed %d", seed)
		}
	}
}

// FuzzDisk holds the disk against the model.
func FuzzDisk(f *testing.F) {
	f.Add(uint8(8), []byte("\x00\x00\x03\x03\x00\x00\x05\x00\x02\x01\x02\x04\x01\x03\x04\x04\x03\x00"))
	f.Fuzz(func(t *testing.T, size uint8, script []byte) {
		compare(t, 1+int(size), script)
	})
}
