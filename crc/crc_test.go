package crc_test

import (
	"fmt"
	"hash/crc32"
	"math"
	"strings"
	"testing"

	"homecoming/crc"
)

// shifted is the register after all bytes of s, by the document's words: bit by bit, without a table.
func shifted(register uint32, s string) uint32 {
	for i := range len(s) {
		register ^= uint32(s[i])
		for range 8 {
			out := register & 1
			register >>= 1
			if out == 1 {
				register ^= 0xedb88320
			}
		}
	}
	return register
}

// summed is the checksum of s by the document's words.
func summed(s string) uint32 {
	return shifted(0xffffffff, s) ^ 0xffffffff
}

// samples are strings of many lengths, with all bytes among them.
func samples() []string {
	l := []string{"", "123456789", "a", "abc", "\x00", "\xff", strings.Repeat("\x00", 40), strings.Repeat("\xff", 40), "grüße", "\xc3\x28"}
	all := make([]byte, 256)
	for i := range all {
		all[i] = byte(i)
		l = append(l, string(all[i:i+1]), string(all[:i+1]))
	}
	return l
}

// registers are values of a register, or of a checksum that need not be one of a known string.
func registers() []uint32 {
	return []uint32{0, 1, 0x80000000, 0xffffffff, 0xedb88320, 0xcbf43926, 0x12345678, 0xdeadbeef}
}

func wantSum(t *testing.T, what string, got, want uint32) {
	t.Helper()
	if got != want {
		t.Errorf("%s: %08x, want %08x", what, got, want)
	}
}

// P1.1

func TestSumOfKnownStrings(t *testing.T) {
	wantSum(t, "Sum(123456789)", crc.Sum("123456789"), 0xcbf43926)
	wantSum(t, "Sum(a)", crc.Sum("a"), 0xe8b7be43)
	wantSum(t, "Sum(byte 0)", crc.Sum("\x00"), 0xd202ef8d)
	wantSum(t, "Sum(byte ff)", crc.Sum("\xff"), 0xff000000)
}

func TestSumIsTheChecksumOfTheDocument(t *testing.T) {
	for _, s := range samples() {
		wantSum(t, fmt.Sprintf("Sum(%q)", s), crc.Sum(s), summed(s))
		wantSum(t, fmt.Sprintf("Sum(%q), by the library", s), crc.Sum(s), crc32.ChecksumIEEE([]byte(s)))
	}
}

func TestSumOfNothing(t *testing.T) {
	wantSum(t, "no parts", crc.Sum(), 0)
	wantSum(t, "an empty part", crc.Sum(""), 0)
	wantSum(t, "empty parts", crc.Sum("", "", ""), 0)
	var none []string
	wantSum(t, "a nil list", crc.Sum(none...), 0)
}

func TestSumOfPartsIsThatOfTheirConcatenation(t *testing.T) {
	const s = "123456789"
	for i := range len(s) + 1 {
		for j := i; j <= len(s); j++ {
			wantSum(t, fmt.Sprintf("cut at %d and %d", i, j), crc.Sum(s[:i], s[i:j], s[j:]), 0xcbf43926)
		}
	}
	wantSum(t, "empty parts between", crc.Sum("", "1234", "", "", "56789", ""), 0xcbf43926)
	wantSum(t, "parts of one byte", crc.Sum(strings.Split(s, "")...), 0xcbf43926)
	if crc.Sum("56789", "1234") == crc.Sum("1234", "56789") {
		t.Error("the order of the parts makes no difference")
	}
}

func TestSumLeavesItsPartsAlone(t *testing.T) {
	parts := []string{"12", "", "34"}
	crc.Sum(parts...)
	if got := fmt.Sprintf("%q", parts); got != `["12" "" "34"]` {
		t.Errorf("parts are %s afterwards", got)
	}
}

func TestExtendGoesOnFromAChecksum(t *testing.T) {
	const s = "123456789"
	for i := range len(s) + 1 {
		wantSum(t, fmt.Sprintf("from %d", i), crc.Extend(crc.Sum(s[:i]), s[i:]), 0xcbf43926)
	}
	for _, x := range samples() {
		wantSum(t, fmt.Sprintf("from nothing by %q", x), crc.Extend(0, x), crc.Sum(x))
		wantSum(t, fmt.Sprintf("by %q", x), crc.Extend(crc.Sum("begin"), x), crc.Sum("begin", x))
	}
}

func TestExtendTakesAnySum(t *testing.T) {
	for _, sum := range registers() {
		wantSum(t, fmt.Sprintf("Extend(%08x) by nothing", sum), crc.Extend(sum, ""), sum)
		for _, x := range samples() {
			want := shifted(sum^0xffffffff, x) ^ 0xffffffff
			wantSum(t, fmt.Sprintf("Extend(%08x, %q)", sum, x), crc.Extend(sum, x), want)
		}
	}
}

func TestJoinOfTwoChecksums(t *testing.T) {
	const s = "123456789"
	for i := range len(s) + 1 {
		wantSum(t, fmt.Sprintf("cut at %d", i), crc.Join(crc.Sum(s[:i]), crc.Sum(s[i:]), len(s)-i), 0xcbf43926)
	}
	for _, x := range samples() {
		for _, y := range []string{"", "z", x} {
			wantSum(t, fmt.Sprintf("%q and %q", y, x), crc.Join(crc.Sum(y), crc.Sum(x), len(x)), crc.Sum(y, x))
		}
	}
}

func TestJoinProcessesBytesZero(t *testing.T) {
	for _, a := range registers() {
		for _, b := range registers() {
			for _, n := range []int{1, 2, 3, 4, 5, 7, 8, 31, 32, 33, 255, 256, 1000} {
				want := shifted(a, strings.Repeat("\x00", n)) ^ b
				wantSum(t, fmt.Sprintf("Join(%08x, %08x, %d)", a, b, n), crc.Join(a, b, n), want)
			}
		}
	}
	want := shifted(0xcbf43926, strings.Repeat("\x00", 1<<20+1)) ^ 7
	wantSum(t, "a million of them", crc.Join(0xcbf43926, 7, 1<<20+1), want)
}

func TestJoinTakesALengthBelowOneAsNone(t *testing.T) {
	for _, a := range registers() {
		for _, b := range registers() {
			for _, n := range []int{0, -1, -2, -8, -1 << 31, math.MinInt + 1, math.MinInt} {
				wantSum(t, fmt.Sprintf("Join(%08x, %08x, %d)", a, b, n), crc.Join(a, b, n), a^b)
			}
		}
	}
}

func TestJoinEndsForTheGreatestLengths(t *testing.T) {
	for _, a := range registers() {
		// The eighth powers of x come round after 2^32 - 1 of them, and 2^63 - 1 is 2^31 - 1 modulo that.
		wantSum(t, "the greatest", crc.Join(a, 5, math.MaxInt), crc.Join(a, 5, math.MaxInt32))
		for _, n := range []int{1, 1 << 20, math.MaxInt32, math.MaxInt / 3, math.MaxInt - 1} {
			steps := crc.Join(crc.Join(a, 0, math.MaxInt-n), 5, n)
			wantSum(t, fmt.Sprintf("in two steps, the second of %d", n), steps, crc.Join(a, 5, math.MaxInt))
		}
	}
}

// P1.2

func TestSealPutsTheSumBehindLowestByteFirst(t *testing.T) {
	if got := crc.Seal("123456789"); got != "123456789\x26\x39\xf4\xcb" {
		t.Errorf("Seal(123456789): %q", got)
	}
	if got := crc.Seal(""); got != "\x00\x00\x00\x00" {
		t.Errorf("Seal of nothing: %q", got)
	}
	for _, s := range samples() {
		n := summed(s)
		want := s + string([]byte{byte(n), byte(n >> 8), byte(n >> 16), byte(n >> 24)})
		if got := crc.Seal(s); got != want {
			t.Errorf("Seal(%q): %q, want %q", s, got, want)
		}
	}
}

func wantShut(t *testing.T, s string) {
	t.Helper()
	if got, ok := crc.Open(s); ok || got != "" {
		t.Errorf("Open(%q): %q, %v, want nothing and false", s, got, ok)
	}
}

func TestOpenOfFewerThanFourBytes(t *testing.T) {
	for _, s := range []string{"", "\x00", "\x00\x00", "\x00\x00\x00", "a", "ab", "abc", "\xff\xff\xff"} {
		wantShut(t, s)
	}
}

func TestOpenOfFourBytes(t *testing.T) {
	if got, ok := crc.Open("\x00\x00\x00\x00"); !ok || got != "" {
		t.Errorf("Open of the sealed empty string: %q, %v", got, ok)
	}
	for _, s := range []string{"abcd", "\xff\xff\xff\xff", "\x01\x00\x00\x00", "\x00\x00\x00\x01"} {
		wantShut(t, s)
	}
}

func TestOpenOfWrongStrings(t *testing.T) {
	sealed := crc.Seal("123456789")
	wantShut(t, "123456789")
	wantShut(t, "123456789\xcb\xf4\x39\x26")
	wantShut(t, "123456789\xd9\xc6\x0b\x34")
	wantShut(t, "213456789\x26\x39\xf4\xcb")
	wantShut(t, "x"+sealed)
	wantShut(t, sealed+"x")
	for i := range len(sealed) {
		wantShut(t, sealed[:i])
	}
	for i := range len(sealed) - 1 {
		wantShut(t, sealed[i+1:])
	}
}

// P1.3

func TestOpenAcceptsWhatSealReturns(t *testing.T) {
	for _, s := range append(samples(), strings.Repeat("long", 1<<15), crc.Seal("twice"), crc.Seal("")) {
		if got, ok := crc.Open(crc.Seal(s)); !ok || got != s {
			t.Errorf("Open(Seal(%q)): %q, %v", s, got, ok)
		}
	}
}

func TestOpenAcceptsNoChangedByte(t *testing.T) {
	for _, s := range []string{"", "a", "123456789", "\x00\x00\x00\x00\x00", strings.Repeat("\xff", 30), strings.Repeat("long", 50)} {
		sealed := crc.Seal(s)
		for i := range len(sealed) {
			for change := 1; change < 256; change++ {
				b := []byte(sealed)
				b[i] ^= byte(change)
				wantShut(t, string(b))
			}
		}
	}
}

// FuzzPromises holds all calls against the document's words.
func FuzzPromises(f *testing.F) {
	f.Add("123456789", "", uint32(0), -1)
	f.Add("", "\x00\x00\x00\x00", uint32(0xffffffff), math.MaxInt)
	f.Fuzz(func(t *testing.T, x, y string, sum uint32, n int) {
		wantSum(t, "Sum", crc.Sum(x, y), summed(x+y))
		wantSum(t, "Extend", crc.Extend(sum, x), shifted(sum^0xffffffff, x)^0xffffffff)
		wantSum(t, "Join", crc.Join(crc.Sum(x), crc.Sum(y), len(y)), summed(x+y))
		wantSum(t, "Join of any length", crc.Join(sum, 0, n)^1, crc.Join(sum, 1, n))
		if got, ok := crc.Open(crc.Seal(x)); !ok || got != x {
			t.Errorf("Open(Seal(%q)): %q, %v", x, got, ok)
		}
		if got, ok := crc.Open(y); ok && crc.Seal(got) != y || !ok && got != "" {
			t.Errorf("Open(%q): %q, %v", y, got, ok)
		}
	})
}
