package halves_test

import (
	"encoding/binary"
	"fmt"
	"math"
	"math/rand"
	"strings"
	"testing"

	"homecoming/api"
	"homecoming/disk"
	"homecoming/frame"
	"homecoming/halves"
)

// P5.4

// call is an Append of s, or a Snap.
type call struct {
	snap bool
	s    string
}

func (c call) of(l *halves.Log) api.Errno {
	if c.snap {
		return l.Snap(c.s)
	}
	return l.Append(c.s)
}

// after is what a log holds behind the call.
func (c call) after(f api.Found) api.Found {
	if c.snap {
		return found(f.Epoch+1, c.s)
	}
	return found(f.Epoch, f.Snap, append(append([]string{}, f.Records...), c.s)...)
}

// calls are many that a log of 120 bytes has room for.
func calls() []call {
	return []call{
		{false, "first"}, {false, "\x00\x00"}, {true, "new"}, {false, "\x5a\xa5"}, {false, "a"}, {true, ""},
		{false, record("x")}, {true, "newer"}, {true, "newest"}, {false, strings.Repeat("\x00", 9)}, {false, "last"},
	}
}

// performed makes the calls up to the first one that fails. It returns what the log is sure to hold
// then, and what it holds if that call was completed.
func performed(l *halves.Log, f api.Found, calls []call) (sure, maybe api.Found, err api.Errno) {
	for _, c := range calls {
		if err := c.of(l); err != api.OK {
			return f, c.after(f), err
		}
		f = c.after(f)
	}
	return f, f, api.OK
}

// durable is the bytes of a disk that is not broken.
func durable(t *testing.T, d *disk.Disk) string {
	t.Helper()
	s, err := d.Read(0, d.Size())
	wantCode(t, "Read", err, api.OK)
	return s
}

// wantOneOf asks that one of the two is found, and that it is found again, wherever the disk breaks
// while it is opened.
func wantOneOf(t *testing.T, what string, d *disk.Disk, sure, maybe api.Found) {
	t.Helper()
	bytes := durable(t, d)
	_, f, err := halves.Open(d)
	if err != api.OK || !same(f, sure) && !same(f, maybe) {
		t.Fatalf("%s: %s, %d, want %s or %s", what, tell(f), int(err), tell(sure), tell(maybe))
	}
	wantFound(t, what, d, f)
	for n := 1; n <= 2; n++ {
		for keep := 0; keep <= d.Size()/2; keep++ {
			e := holding(t, bytes)
			e.Break(n)
			wantNotOpened(t, what, e, api.ErrIO)
			e.Crash(keep)
			wantFound(t, fmt.Sprintf("%s, opened with a break in step %d, with %d bytes kept", what, n, keep), e, f)
		}
	}
}

func TestCrashesAtEachStepOfALog(t *testing.T) {
	for n := 1; ; n++ {
		pending := 0
		for keep := 0; keep <= pending; keep++ {
			l, d := formatted(t, 120, "s")
			d.Break(n)
			sure, maybe, err := performed(l, found(1, "s"), calls())
			if err == api.OK {
				if n != 7*2+4*4+1 {
					t.Errorf("the calls have %d steps", n-1)
				}
				return
			}
			pending = d.Pending()
			d.Crash(keep)
			wantOneOf(t, fmt.Sprintf("broken in step %d, with %d bytes kept", n, keep), d, sure, maybe)
		}
	}
}

func TestAllThatWasPendingIsKept(t *testing.T) {
	for _, c := range []call{{false, "x"}, {true, "x"}} {
		l, d := formatted(t, 120, "s")
		l.Append("a")
		steps := 2
		if c.snap {
			steps = 4
		}
		for n := steps - 1; n <= steps; n++ {
			e := holding(t, durable(t, d))
			m := opened(t, e)
			e.Break(n)
			wantCode(t, "a disk that breaks", c.of(m), api.ErrIO)
			e.Crash(math.MaxInt)
			wantFound(t, "what was under way", e, c.after(found(1, "s", "a")))
		}
	}
}

func TestCrashesOfALogThatGoesOn(t *testing.T) {
	for seed := range int64(400) {
		random := rand.New(rand.NewSource(seed))
		l, d := formatted(t, 100+random.Intn(60), "s")
		f := found(1, "s")
		for i := range 40 {
			c := call{random.Intn(4) == 0, strings.Repeat(string([]byte{byte(random.Intn(256))}), 1+random.Intn(12))}
			d.Break(random.Intn(12))
			err := c.of(l)
			d.Break(0)
			what := fmt.Sprintf("seed %d, call %d", seed, i)
			switch err {
			case api.OK:
				f = c.after(f)
			case api.ErrFull:
				wantCode(t, what, call{true, "full"}.of(l), api.OK)
				f = found(f.Epoch+1, "full")
			case api.ErrIO:
				d.Crash(random.Intn(100) - 10)
				var g api.Found
				l, g, err = halves.Open(d)
				if err != api.OK || !same(g, f) && !same(g, c.after(f)) {
					t.Fatalf("%s: %s, %d, want %s or %s", what, tell(g), int(err), tell(f), tell(c.after(f)))
				}
				f = g
			default:
				t.Fatalf("%s: %d", what, int(err))
			}
		}
		d.Crash(0)
		wantFound(t, fmt.Sprintf("seed %d", seed), d, f)
	}
}

func TestCrashesOfFormat(t *testing.T) {
	for _, old := range []string{both(30, "", ""), both(30, strings.Repeat("x", 30), strings.Repeat("y", 30))} {
		for n := 1; n <= 6; n++ {
			for keep := range 40 {
				d := holding(t, old)
				d.Break(n)
				wantNotFormatted(t, "a disk that breaks", d, "s", api.ErrIO)
				d.Crash(keep)
				what := fmt.Sprintf("broken in step %d, with %d bytes kept", n, keep)
				if n >= 5 || n >= 3 && keep >= len(written(1, "s")) {
					wantFound(t, what, d, found(1, "s"))
				} else {
					wantNotOpened(t, what, d, api.ErrNone)
				}
			}
		}
	}
}

func TestCrashesOfFormatKeepALogInTheSecondHalf(t *testing.T) {
	for n := 1; n <= 6; n++ {
		for keep := range 40 {
			d := holding(t, both(30, written(1, "s", "a"), written(2, "t", "b")))
			d.Break(n)
			wantNotFormatted(t, "a disk that breaks", d, "new", api.ErrIO)
			d.Crash(keep)
			wantOneOf(t, fmt.Sprintf("broken in step %d, with %d bytes kept", n, keep), d, found(2, "t", "b"), found(3, "new"))
		}
	}
}

// All promises, together

// place is where a log of the model is.
type place struct {
	at, used int
	epoch    uint64
	broken   bool
}

// model is a log by the document's words, on a disk of its own.
type model struct {
	d   *disk.Disk
	log *place
}

// content is what a half holds for a log, and where its records end; the epoch is 0 if there is none.
func content(half string) (api.Found, int) {
	l, end := frame.Scan(half)
	if len(l) == 0 {
		return api.Found{}, 0
	}
	b := []byte(l[0])
	epoch, n := binary.Uvarint(b)
	if n <= 0 {
		return api.Found{}, 0
	}
	_, m := binary.Uvarint(b[n:])
	if m <= 0 || epoch == 0 || head(epoch, l[0][n+m:]) != l[0] {
		return api.Found{}, 0
	}
	return found(epoch, l[0][n+m:], l[1:]...), end
}

// run performs the steps up to one that fails.
func (m *model) run(steps ...step) api.Errno {
	for _, s := range steps {
		var err api.Errno
		if s.sync {
			err = m.d.Sync()
		} else {
			err = m.d.Write(s.at, s.s)
		}
		if err != api.OK {
			return err
		}
	}
	return api.OK
}

// head is the record of the head behind this epoch, or the empty string if a half has no room for it.
func (m *model) head(epoch uint64, snap string) string {
	r := record(head(epoch+1, snap))
	if epoch == math.MaxUint64 || len(r) > m.d.Size()/2 {
		return ""
	}
	return r
}

func (m *model) format(snap string) api.Errno {
	bytes, err := m.d.Read(0, m.d.Size())
	if err != api.OK {
		return err
	}
	n := len(bytes) / 2
	first, _ := content(bytes[:n])
	second, _ := content(bytes[n : 2*n])
	epoch := max(first.Epoch, second.Epoch)
	r := m.head(epoch, snap)
	if r == "" {
		return api.ErrFull
	}
	err = m.run(write(0, zeros(n)), sync(), write(0, r), sync(), write(n, zeros(n)), sync())
	if err == api.OK {
		m.log = &place{used: len(r), epoch: epoch + 1}
	}
	return err
}

func (m *model) open() (api.Found, api.Errno) {
	bytes, err := m.d.Read(0, m.d.Size())
	if err != api.OK {
		return api.Found{}, err
	}
	n := len(bytes) / 2
	f, used := content(bytes[:n])
	at := 0
	if g, end := content(bytes[n : 2*n]); g.Epoch > f.Epoch {
		f, used, at = g, end, n
	}
	if f.Epoch == 0 {
		return api.Found{}, api.ErrNone
	}
	if err := m.run(write(at+used, zeros(n-used)), sync()); err != api.OK {
		return api.Found{}, err
	}
	m.log = &place{at: at, used: used, epoch: f.Epoch}
	return f, api.OK
}

func (m *model) room() int {
	if m.log == nil || m.log.broken {
		return 0
	}
	return m.d.Size()/2 - m.log.used
}

func (m *model) append(s string) api.Errno {
	r := record(s)
	switch {
	case m.log == nil || m.log.broken:
		return api.ErrState
	case r == "":
		return api.ErrArg
	case len(r) > m.room():
		return api.ErrFull
	}
	err := m.run(write(m.log.at+m.log.used, r), sync())
	m.log.broken = err != api.OK
	m.log.used += len(r)
	return err
}

func (m *model) snap(s string) api.Errno {
	if m.log == nil || m.log.broken {
		return api.ErrState
	}
	r := m.head(m.log.epoch, s)
	if r == "" {
		return api.ErrFull
	}
	n := m.d.Size() / 2
	other := n - m.log.at
	err := m.run(write(other, zeros(n)), sync(), write(other, r), sync())
	if err != api.OK {
		m.log.broken = true
		return err
	}
	m.log = &place{at: other, used: len(r), epoch: m.log.epoch + 1}
	return api.OK
}

// forged are pieces that are written over the disks, so that there is more than logs leave.
func forged() []string {
	return []string{
		"x", "\x00", zeros(30), written(1, "f"), written(7, "", "g"), written(127, "h"), written(math.MaxUint64, "i"),
		written(math.MaxUint64-1, "j"), record("\x00\x00"), record("\x01"), record("\x81\x00\x00"), record("k"), record("\x01\x00\x00"),
	}
}

// pair is a log and the model, each on a disk of its own, of equal sizes.
type pair struct {
	l *halves.Log
	d *disk.Disk
	m *model
}

// operate performs the operation with this number on both, and compares what it returns.
func (p *pair) operate(t *testing.T, what string, number, a, b byte) {
	t.Helper()
	s := strings.Repeat(string([]byte{b}), int(a)%24)
	switch number % 10 {
	case 0:
		l, err := halves.Format(p.d, s)
		wantCode(t, what+" Format", err, p.m.format(s))
		if (l == nil) != (err != api.OK) {
			t.Errorf("%s Format: %v, %d", what, l != nil, int(err))
		}
		if l != nil {
			p.l = l
		}
	case 1, 2:
		l, f, err := halves.Open(p.d)
		want, code := p.m.open()
		if err != code || !same(f, want) || (l == nil) != (err != api.OK) {
			t.Errorf("%s Open: %v, %s, %d, want %s, %d", what, l != nil, tell(f), int(err), tell(want), int(code))
		}
		if l != nil {
			p.l = l
		}
	case 3, 4, 5:
		wantCode(t, what+" Append", p.l.Append(s), p.m.append(s))
	case 6:
		wantCode(t, what+" Snap", p.l.Snap(s), p.m.snap(s))
	case 7:
		p.d.Break(int(a) % 10)
		p.m.d.Break(int(a) % 10)
	case 8:
		p.d.Crash(int(a))
		p.m.d.Crash(int(a))
	default:
		at, s := int(a)%2*(p.d.Size()/2), forged()[int(b)%len(forged())]
		wantCode(t, what+" Write", p.d.Write(at, s), p.m.d.Write(at, s))
	}
}

// compare performs one operation after the other, each of three bytes, on a log and on the model.
func compare(t *testing.T, size int, script []byte) {
	t.Helper()
	d := disk.New(size)
	p := &pair{nil, d, &model{d: disk.New(size)}}
	for i := 0; i+3 <= len(script) && !t.Failed(); i += 3 {
		what := fmt.Sprintf("operation %d (%d, %d, %d)", i/3, script[i]%10, script[i+1], script[i+2])
		p.operate(t, what, script[i], script[i+1], script[i+2])
		if m := p.m.log; m == nil {
			wantLog(t, what, p.l, 0, 0, false)
		} else {
			wantLog(t, what, p.l, m.epoch, p.m.room(), m.broken)
		}
		got, err := d.Read(0, size)
		want, code := p.m.d.Read(0, size)
		if got != want || err != code || d.Pending() != p.m.d.Pending() || d.Broken() != p.m.d.Broken() {
			t.Errorf("%s: the disk holds %s, %d, want %s, %d", what, brief(got), int(err), brief(want), int(code))
		}
	}
}

func TestLogIsTheModel(t *testing.T) {
	for seed := range int64(1500) {
		random := rand.New(rand.NewSource(seed))
		script := make([]byte, 3*100)
		random.Read(script)
		for i := 0; seed%2 == 0 && i < len(script); i += 3 {
			if script[i]%10 >= 7 && random.Intn(4) > 0 { // so that some logs grow long
				script[i] = 3
			}
		}
		compare(t, 1+random.Intn(160), script)
		if t.Failed() {
			t.Fatalf("seed %d", seed)
		}
	}
}

// FuzzLog holds a log against the model.
func FuzzLog(f *testing.F) {
	f.Add(uint8(64), []byte("\x00\x01s\x03\x01a\x03\x01b\x06\x01t\x03\x01c\x07\x01\x00\x03\x01d\x08\x05\x00\x01\x00\x00"))
	f.Fuzz(func(t *testing.T, size uint8, script []byte) {
		compare(t, 1+int(size), script)
	})
}
