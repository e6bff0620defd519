package frame_test

import (
	"encoding/binary"
	"fmt"
	"hash/crc32"
	"math"
	"math/rand"
	"slices"
	"strings"
	"testing"

	"homecoming/frame"
)

// most is how many bytes a string with a record has at most.
const most = 1 << 15

// forged is a record of s by the document's words, with a length and a checksum that need not be those of s.
func forged(s string, n uint16, sum uint32) string {
	b := []byte{0xa5}
	b = binary.LittleEndian.AppendUint16(b, n)
	b = binary.LittleEndian.AppendUint32(b, sum)
	return string(b) + s + "\x5a"
}

// record is that of s by the document's words, or the empty string if there is none.
func record(s string) string {
	if len(s) < 1 || len(s) > most {
		return ""
	}
	return forged(s, uint16(len(s)), crc32.ChecksumIEEE([]byte(s)))
}

// begun is the string whose record s begins with, by the document's words: of all strings that s holds
// where a record has its string, the one whose record is there.
func begun(s string) (string, bool) {
	for n := 1; n <= most && 7+n < len(s); n++ {
		if text := s[7 : 7+n]; s[7+n] == 0x5a && strings.HasPrefix(s, record(text)) {
			return text, true
		}
	}
	return "", false
}

// scanned is what Scan returns, by the document's words.
func scanned(s string) ([]string, int) {
	var l []string
	end := 0
	for text, ok := begun(s); ok; text, ok = begun(s[end:]) {
		l = append(l, text)
		end += len(record(text))
	}
	return l, end
}

// texts are strings that have a record: of the least and the greatest length, of lengths at which the
// bytes of the length change, of all bytes, and such as look like records or parts of them.
func texts() []string {
	l := []string{"a", "ab", "123456789", "\x00", "\x5a", "\xa5", "\xff", "\x00\x00\x00\x00", "\x5a\x5a\x5a", "\xa5\x01\x00", "grüße", "\xc3\x28"}
	all := make([]byte, 256)
	for i := range all {
		all[i] = byte(i)
		l = append(l, string(all[:i+1]))
	}
	l = append(l, record("a"), record(record("a")), record("a")+record("b"), strings.Repeat("\x00", 90))
	for _, n := range []int{257, 511, 512, 4096, most - 256, most - 255, most - 1, most} {
		l = append(l, strings.Repeat("x", n), strings.Repeat("\x00", n), strings.Repeat("\xa5\x5a\x00", n)[:n])
	}
	return l
}

// short are those of the texts of which every byte can be tried.
func short() []string {
	return slices.DeleteFunc(texts(), func(s string) bool { return len(s) > 40 })
}

// recordless are strings without a record.
func recordless() []string {
	return []string{"", strings.Repeat("x", most+1), strings.Repeat("\x00", most+1), strings.Repeat("x", 1<<16), strings.Repeat("x", 1<<16+1), strings.Repeat("x", 1<<17)}
}

// brief is s as it is told in a fault.
func brief(s string) string {
	if len(s) > 60 {
		return fmt.Sprintf("%x.. of %d bytes", s[:60], len(s))
	}
	return fmt.Sprintf("%x", s)
}

func wantText(t *testing.T, what, got, want string) {
	t.Helper()
	if got != want {
		t.Errorf("%s: %s, want %s", what, brief(got), brief(want))
	}
}

func wantNext(t *testing.T, s, want string) {
	t.Helper()
	text, size, ok := frame.Next(s)
	if text != want || size != len(record(want)) || !ok {
		t.Errorf("Next(%s): %s, %d, %v, want %s, %d, true", brief(s), brief(text), size, ok, brief(want), len(record(want)))
	}
}

func wantNoNext(t *testing.T, s string) {
	t.Helper()
	if text, size, ok := frame.Next(s); text != "" || size != 0 || ok {
		t.Errorf("Next(%s): %s, %d, %v, want no record", brief(s), brief(text), size, ok)
	}
}

func wantScan(t *testing.T, s string, want []string, wantEnd int) {
	t.Helper()
	if l, end := frame.Scan(s); !slices.Equal(l, want) || end != wantEnd {
		t.Errorf("Scan(%s): %d strings up to %d, want %d up to %d", brief(s), len(l), end, len(want), wantEnd)
	}
}

func wantEmpty(t *testing.T, s string, at int, want bool) {
	t.Helper()
	if got := frame.Empty(s, at); got != want {
		t.Errorf("Empty(%s, %d): %v", brief(s), at, got)
	}
}

// P4.1

func TestSizeIsThatOfTheRecord(t *testing.T) {
	for n := 1; n <= most; n++ {
		if got := frame.Size(n); got != n+8 {
			t.Fatalf("Size(%d): %d, want %d", n, got, n+8)
		}
	}
	for _, s := range append(texts(), recordless()...) {
		if got := frame.Size(len(s)); got != len(record(s)) || got != len(frame.Wrap(s)) {
			t.Errorf("Size(%d): %d, of records of %d and %d bytes", len(s), got, len(record(s)), len(frame.Wrap(s)))
		}
	}
}

func TestSizeOfLengthsWithoutRecord(t *testing.T) {
	for _, n := range []int{0, -1, -2, -7, -8, -9, most + 1, most + 2, 1 << 16, 1<<16 + 1, -1 << 15, -1<<16 + 1, math.MaxInt32, math.MinInt32, 1<<32 + 1, math.MaxInt - 8, math.MaxInt - 7, math.MaxInt - 1, math.MaxInt, math.MinInt, math.MinInt + 1} {
		if got := frame.Size(n); got != 0 {
			t.Errorf("Size(%d): %d", n, got)
		}
	}
}

func TestWrapOfKnownStrings(t *testing.T) {
	wantText(t, "a", frame.Wrap("a"), "\xa5\x01\x00\x43\xbe\xb7\xe8\x61\x5a")
	wantText(t, "123456789", frame.Wrap("123456789"), "\xa5\x09\x00\x26\x39\xf4\xcb123456789\x5a")
	wantText(t, "258 bytes", frame.Wrap(strings.Repeat("x", 258))[:3], "\xa5\x02\x01")
	wantText(t, "the greatest length", frame.Wrap(strings.Repeat("x", most))[:3], "\xa5\x00\x80")
	wantText(t, "the greatest length but one", frame.Wrap(strings.Repeat("x", most-1))[:3], "\xa5\xff\x7f")
}

func TestWrapIsTheRecordOfTheDocument(t *testing.T) {
	for _, s := range texts() {
		wantText(t, "Wrap of "+brief(s), frame.Wrap(s), record(s))
	}
	for b := range 256 {
		s := string([]byte{byte(b)})
		wantText(t, "Wrap of "+brief(s), frame.Wrap(s), record(s))
	}
}

func TestWrapOfStringsWithoutRecord(t *testing.T) {
	for _, s := range recordless() {
		wantText(t, "Wrap of "+brief(s), frame.Wrap(s), "")
	}
}

func TestAllIsTheRecordsOneBehindTheOther(t *testing.T) {
	wantText(t, "one", frame.All("a"), record("a"))
	wantText(t, "three", frame.All("a", "b", "ab"), record("a")+record("b")+record("ab"))
	wantText(t, "one string twice", frame.All("a", "a"), record("a")+record("a"))
	want := ""
	for _, s := range texts() {
		want += record(s)
	}
	wantText(t, "all kinds", frame.All(texts()...), want)
}

func TestAllOfNothing(t *testing.T) {
	var none []string
	wantText(t, "no strings", frame.All(), "")
	wantText(t, "a nil list", frame.All(none...), "")
	wantText(t, "strings without a record", frame.All(recordless()...), "")
}

func TestAllPassesOverStringsWithoutRecord(t *testing.T) {
	for _, s := range recordless() {
		wantText(t, "ahead", frame.All(s, "a", "b"), record("a")+record("b"))
		wantText(t, "between", frame.All("a", s, s, "b"), record("a")+record("b"))
		wantText(t, "behind", frame.All("a", "b", s), record("a")+record("b"))
	}
}

func TestAllLeavesItsStringsAlone(t *testing.T) {
	l := []string{"a", "", "b"}
	frame.All(l...)
	if !slices.Equal(l, []string{"a", "", "b"}) {
		t.Errorf("the strings are %q afterwards", l)
	}
}

// P4.2: Next

func TestNextReadsARecordWhateverIsBehind(t *testing.T) {
	for _, s := range texts() {
		for _, behind := range []string{"", "\x00", "\x5a", "\xa5", "x", record("b"), record("b")[:5], strings.Repeat("\x00", 100)} {
			wantNext(t, record(s)+behind, s)
		}
	}
}

func TestNextOfWhatIsNoRecord(t *testing.T) {
	for _, s := range []string{"", "\x00", "a", "\xa5", "\x5a", "\xa5\x5a", "\xa5\x00\x00\x00\x00\x00\x00", strings.Repeat("\x00", 9), strings.Repeat("\xa5", 100), strings.Repeat("\x5a", 100), strings.Repeat("\xff", 1<<17)} {
		wantNoNext(t, s)
	}
	for _, s := range texts() {
		wantNoNext(t, "\x00"+record(s))
		wantNoNext(t, "x"+record(s))
		wantNoNext(t, "\xa5"+record(s))
		wantNoNext(t, record(s)[1:])
	}
}

func TestNextOfLengthsWithoutRecord(t *testing.T) {
	for _, behind := range []string{"", "\x5a", "a\x5a", record("a"), strings.Repeat("\x5a", 1<<16)} {
		wantNoNext(t, forged("", 0, crc32.ChecksumIEEE(nil))+behind)
		wantNoNext(t, forged("", 0, 0)[:7]+behind)
	}
	for _, n := range []int{most + 1, most + 2, most + 256, 1<<16 - 256, 1<<16 - 1} {
		s := strings.Repeat("x", n)
		sum := crc32.ChecksumIEEE([]byte(s))
		wantNoNext(t, forged(s, uint16(n), sum))
		wantNoNext(t, forged(s, uint16(n), sum)+record("a"))
	}
	// A length that has been cut to two bytes is that of a shorter string, or of none.
	for _, n := range []int{1 << 16, 1<<16 + 1} {
		s := strings.Repeat("x", n)
		wantNoNext(t, forged(s, uint16(n), crc32.ChecksumIEEE([]byte(s))))
	}
}

func TestNextOfAWrongLength(t *testing.T) {
	for _, s := range short() {
		for n := range 300 {
			if n != len(s) {
				wantNoNext(t, forged(s, uint16(n), crc32.ChecksumIEEE([]byte(s))))
			}
		}
		// The same length with its bytes in the other order.
		wantNoNext(t, forged(s, uint16(len(s))<<8, crc32.ChecksumIEEE([]byte(s)))+strings.Repeat("\x5a", 1<<15))
	}
}

func TestNextOfAWrongChecksum(t *testing.T) {
	for _, s := range texts() {
		sum := crc32.ChecksumIEEE([]byte(s))
		for bit := range 32 {
			wantNoNext(t, forged(s, uint16(len(s)), sum^1<<bit))
		}
		wantNoNext(t, forged(s, uint16(len(s)), ^sum))
	}
	swapped := []byte(record("a"))
	slices.Reverse(swapped[3:7])
	wantNoNext(t, string(swapped))
}

func TestNextOfAWrongLastByte(t *testing.T) {
	for _, s := range []string{"a", "123456789", "\x00\x00", strings.Repeat("x", most)} {
		r := record(s)
		for b := range 256 {
			if b == 0x5a {
				continue
			}
			wantNoNext(t, r[:len(r)-1]+string([]byte{byte(b)}))
			wantNoNext(t, r[:len(r)-1]+string([]byte{byte(b)})+"\x5a")
		}
	}
}

func TestNextOfAWrongFirstByte(t *testing.T) {
	for b := range 256 {
		if b != 0xa5 {
			wantNoNext(t, string([]byte{byte(b)})+record("123456789")[1:])
		}
	}
}

func TestNextOfARecordWithOneByteTurned(t *testing.T) {
	for _, s := range short() {
		for i := range len(record(s)) {
			for by := 1; by < 256; by++ {
				b := []byte(record(s))
				b[i] ^= byte(by)
				wantNoNext(t, string(b))
			}
		}
	}
	for _, s := range []string{strings.Repeat("x", most), strings.Repeat("\x00", most)} {
		for _, i := range []int{0, 1, 2, 3, 6, 7, 8, most / 2, most + 5, most + 6, most + 7} {
			for bit := range 8 {
				b := []byte(record(s))
				b[i] ^= 1 << bit
				wantNoNext(t, string(b))
			}
		}
	}
}

// P4.2: Scan

func TestScanOfRecords(t *testing.T) {
	wantScan(t, record("a"), []string{"a"}, 9)
	wantScan(t, record("a")+record("bc"), []string{"a", "bc"}, 19)
	wantScan(t, record("a")+record("a")+record("a"), []string{"a", "a", "a"}, 27)
	all := ""
	for _, s := range texts() {
		all += record(s)
	}
	wantScan(t, all, texts(), len(all))
	many := slices.Repeat([]string{"a", "bc"}, 5000)
	wantScan(t, strings.Repeat(record("a")+record("bc"), 5000), many, 5000*19)
}

func TestScanOfNoRecord(t *testing.T) {
	for _, s := range []string{"", "\x00", "a", "\xa5", "\xa5\x00", record("a")[:8], record("a")[1:], "\x00" + record("a"), "x" + record("a"), record("")} {
		wantScan(t, s, nil, 0)
	}
	wantScan(t, strings.Repeat("\x00", 1<<17), nil, 0)
	wantScan(t, forged("", 0, 0)+record("a"), nil, 0)
}

func TestScanUpToWhatIsNoRecord(t *testing.T) {
	whole := record("a") + record("bc")
	for _, behind := range []string{"\x00", "\xa5", "\xa5\x00", "\x5a", "x", strings.Repeat("\x00", 100), record("d")[:8], forged("", 0, 0), forged("d", 1, 0)} {
		wantScan(t, whole+behind, []string{"a", "bc"}, 19)
		wantScan(t, record("a")+behind, []string{"a"}, 9)
	}
	// What follows is not among the consecutive ones, even if it is whole.
	for _, between := range []string{"\x00", "\xa5", "x", forged("", 0, 0), forged("d", 1, 0), strings.Repeat("\x00", 9)} {
		wantScan(t, record("a")+between+record("bc"), []string{"a"}, 9)
	}
}

func TestScanLeavesWhatItReturnedAlone(t *testing.T) {
	s := record("a") + record("bc")
	l, _ := frame.Scan(s)
	l[0] = "changed"
	wantScan(t, s, []string{"a", "bc"}, 19)
}

func TestScanIsThatOfTheDocument(t *testing.T) {
	random := rand.New(rand.NewSource(4))
	pieces := []string{record("a"), record("bc"), record("\x5a\x5a"), record(record("a")), "\x00", "\xa5", "\x5a", "x", record("a")[:4], forged("", 0, 0)}
	for range 20000 {
		s := ""
		for range random.Intn(7) {
			// Records are taken more often, so that many of them stand one behind the other.
			s += pieces[random.Intn(len(pieces))%(4+random.Intn(len(pieces)-3))]
		}
		b := []byte(s)
		if len(b) > 0 && random.Intn(3) == 0 {
			b[random.Intn(len(b))] ^= byte(1 + random.Intn(255))
		}
		s = string(b)
		l, end := scanned(s)
		wantScan(t, s, l, end)
		text, ok := begun(s)
		if ok {
			wantNext(t, s, text)
		} else {
			wantNoNext(t, s)
		}
	}
}

// P4.2: Empty

func TestEmptyLooksFromAPositionOn(t *testing.T) {
	wantEmpty(t, "a\x00\x00", 0, false)
	wantEmpty(t, "a\x00\x00", 1, true)
	wantEmpty(t, "a\x00\x00", 2, true)
	wantEmpty(t, "\x00\x00\x01", 0, false)
	wantEmpty(t, "\x00\x00\x01", 2, false)
	wantEmpty(t, "\x00\x00\x01", 3, true)
	zeros := strings.Repeat("\x00", 100)
	for i := range len(zeros) {
		for _, b := range []string{"\x01", "0", "\x80", "\xff"} {
			s := zeros[:i] + b + zeros[i+1:]
			for at := range len(s) + 2 {
				wantEmpty(t, s, at, at > i)
			}
		}
	}
	for b := range 256 {
		wantEmpty(t, string([]byte{byte(b)}), 0, b == 0)
	}
}

func TestEmptyTakesANegativePositionAsTheFirst(t *testing.T) {
	for _, at := range []int{-1, -2, -3, -100, math.MinInt32, math.MinInt + 1, math.MinInt} {
		wantEmpty(t, "", at, true)
		wantEmpty(t, "\x00\x00", at, true)
		wantEmpty(t, "a\x00\x00", at, false)
		wantEmpty(t, "\x00\x00a", at, false)
	}
}

func TestEmptyAtTheLengthAndBeyond(t *testing.T) {
	for _, s := range []string{"", "a", "\x00", "abc", strings.Repeat("x", 1000)} {
		for _, more := range []int{0, 1, 2, 100, math.MaxInt32} {
			wantEmpty(t, s, len(s)+more, true)
		}
		wantEmpty(t, s, math.MaxInt-1, true)
		wantEmpty(t, s, math.MaxInt, true)
	}
	wantEmpty(t, "abc", 2, false)
}

// P4.3

func TestWhatWasWrittenIsReadBack(t *testing.T) {
	for _, s := range texts() {
		wantNext(t, frame.Wrap(s), s)
		wantNext(t, frame.Wrap(s)+frame.Wrap("b"), s)
		wantScan(t, frame.Wrap(s), []string{s}, frame.Size(len(s)))
	}
	all := frame.All(texts()...)
	wantScan(t, all, texts(), len(all))
	mixed := frame.All(append(recordless(), append(texts(), recordless()...)...)...)
	wantScan(t, mixed, texts(), len(all))
	random := rand.New(rand.NewSource(43))
	for range 300 {
		b := make([]byte, 1+random.Intn(3000))
		for i := range b {
			b[i] = byte(random.Intn(256))
		}
		wantNext(t, frame.Wrap(string(b)), string(b))
	}
}

func TestARecordThatIsCutOffIsNone(t *testing.T) {
	for _, s := range texts() {
		r := frame.Wrap(s)
		for cut := range len(r) {
			if len(r) > 400 && cut > 20 && cut < len(r)-20 {
				continue
			}
			left := len(r) - cut
			for _, zeros := range []int{0, 1, left - 1, left, left + 1, left + 300} {
				wantNoNext(t, r[:cut]+strings.Repeat("\x00", zeros))
			}
			torn := r[:cut] + strings.Repeat("\x00", left)
			wantScan(t, torn, nil, 0)
			wantScan(t, frame.Wrap("b")+torn, []string{"b"}, 9)
		}
	}
}

func TestARecordOfTheGreatestLengthThatIsCutOffIsNone(t *testing.T) {
	r := frame.Wrap(strings.Repeat("\x5a", most))
	for cut := range len(r) {
		wantNoNext(t, r[:cut])
		wantNoNext(t, r[:cut]+strings.Repeat("\x00", len(r)-cut))
	}
}

func TestARecordWhoseFirstBytesAreZeroIsNone(t *testing.T) {
	for _, s := range texts() {
		r := frame.Wrap(s)
		for n := 1; n <= len(r); n++ {
			if len(r) > 400 && n > 20 && n < len(r)-20 {
				continue
			}
			wantNoNext(t, strings.Repeat("\x00", n)+r[n:])
			wantScan(t, strings.Repeat("\x00", n)+r[n:]+frame.Wrap("b"), nil, 0)
		}
	}
}
