package sha_test

import (
	"crypto/sha256"
	"encoding/hex"
	"fmt"
	"math/rand"
	"slices"
	"strings"
	"sync"
	"testing"

	"homecoming/sha"
)

// edges are the lengths about which a string gets one more block: the padding fits, or it does not.
var edges = []int{0, 1, 2, 3, 54, 55, 56, 57, 62, 63, 64, 65, 118, 119, 120, 121, 127, 128, 129, 183, 184, 191, 192, 193}

// some is n bytes, always the same.
func some(n int) string {
	b := make([]byte, n)
	rand.New(rand.NewSource(int64(n))).Read(b)
	return string(b)
}

// summed is the digest of s by the library.
func summed(s string) string {
	sum := sha256.Sum256([]byte(s))
	return string(sum[:])
}

func wantDigest(t *testing.T, what, got, want string) {
	t.Helper()
	if got != want {
		t.Errorf("%s: %x, want %x", what, got, want)
	}
}

func wantCount(t *testing.T, what string, m *sha.Meter, want int) {
	t.Helper()
	if got := m.Count(); got != want {
		t.Errorf("%s: Count is %d, want %d", what, got, want)
	}
}

// P6.1: Sum

// published holds strings and digests that were published with the algorithm, or for tests of it.
var published = []struct{ what, s, digest string }{
	{"abc", "abc", "ba7816bf8f01cfea414140de5dae2223b00361a396177a9cb410ff61f20015ad"},
	{"nothing", "", "e3b0c44298fc1c149afbf4c8996fb92427ae41e4649b934ca495991b7852b855"},
	{"56 bytes", "abcdbcdecdefdefgefghfghighijhijkijkljklmklmnlmnomnopnopq", "248d6a61d20638b8e5c026930c3e6039a33ce45964ff2167f6ecedd419db06c1"},
	{"112 bytes", "abcdefghbcdefghicdefghijdefghijkefghijklfghijklmghijklmnhijklmnoijklmnopjklmnopqklmnopqrlmnopqrsmnopqrstnopqrstu", "cf5b16a778af8380036ce59e7b0492370b249b11e8f07a51afac45037afee9d1"},
	{"a sentence", "The quick brown fox jumps over the lazy dog", "d7a8fbb307d7809469ca9abcb0082e4f8d5651e46d3cdb762d02d0bf37c9e592"},
	{"byte bd", "\xbd", "68325720aabd7c82f30f554b313d0570c95accbb7dc4b5aae11204c08ffe732b"},
	{"four bytes", "\xc9\x8c\x8e\x55", "7abc22c0ae5af26ce93dbb94433a0e0b2e119d014f8e7f65bd56c61ccccd9504"},
	{"55 bytes 0", strings.Repeat("\x00", 55), "02779466cdec163811d078815c633f21901413081449002f24aa3e80f0b88ef7"},
	{"56 bytes 0", strings.Repeat("\x00", 56), "d4817aa5497628e7c77e6b606107042bbba3130888c5f47a375e6179be789fbb"},
	{"57 bytes 0", strings.Repeat("\x00", 57), "65a16cb7861335d5ace3c60718b5052e44660726da4cd13bb745381b235a1785"},
	{"64 bytes 0", strings.Repeat("\x00", 64), "f5a5fd42d16a20302798ef6ed309979b43003d2320d9f0e8ea9831a92759fb4b"},
	{"1000 bytes 0", strings.Repeat("\x00", 1000), "541b3e9daa09b20bf85fa273e5cbd3e80185aa4ec298e765db87742b70138a53"},
	{"1000 times A", strings.Repeat("A", 1000), "c2e686823489ced2017f6059b8b239318b6364f6dcd835d0a519105a1eadd6e4"},
	{"1005 times U", strings.Repeat("U", 1005), "f4d62ddec0f3dd90ea1380fa16a5ff8dc4c54b21740650f24afc4120903552b0"},
	{"a million times a", strings.Repeat("a", 1000000), "cdc76e5c9914fb9281a1c7e284d73e67f1809a48a497200e046d39ccc7112cd0"},
}

func TestSumOfPublishedStrings(t *testing.T) {
	for _, p := range published {
		if got := sha.Hex(sha.Sum(p.s)); got != p.digest {
			t.Errorf("%s: %s, want %s", p.what, got, p.digest)
		}
	}
}

func TestSumIsThatOfTheLibraryForEachLength(t *testing.T) {
	for n := range 600 {
		s := some(n)
		wantDigest(t, fmt.Sprintf("%d bytes", n), sha.Sum(s), summed(s))
	}
	for _, n := range []int{1 << 10, 4095, 4096, 4097, 1<<16 - 9, 1<<16 - 8, 1 << 16, 1<<20 + 55, 1<<20 + 56} {
		s := some(n)
		wantDigest(t, fmt.Sprintf("%d bytes", n), sha.Sum(s), summed(s))
	}
}

func TestSumOfEachByteAtTheEdges(t *testing.T) {
	for _, n := range edges {
		for _, b := range []string{"\x00", "\xff", "\x80", "\x01", "a"} {
			s := strings.Repeat(b, n)
			wantDigest(t, fmt.Sprintf("%d times %q", n, b), sha.Sum(s), summed(s))
		}
	}
	for b := range 256 {
		s := string([]byte{byte(b)})
		wantDigest(t, fmt.Sprintf("%q", s), sha.Sum(s), summed(s))
	}
}

// The length in bits of this one takes more than four bytes.
func TestSumOfALengthOfMoreThan32Bits(t *testing.T) {
	if testing.Short() {
		t.Skip("it takes seconds")
	}
	part := some(1 << 20)
	parts := slices.Repeat([]string{part}, 1<<9)
	library := sha256.New()
	for range parts {
		library.Write([]byte(part))
	}
	wantDigest(t, "512 MiB", sha.Sum(parts...), string(library.Sum(nil)))
}

func TestSumOfNothing(t *testing.T) {
	var none []string
	wantDigest(t, "no parts", sha.Sum(), summed(""))
	wantDigest(t, "a nil list", sha.Sum(none...), summed(""))
	wantDigest(t, "an empty string", sha.Sum(""), summed(""))
	wantDigest(t, "empty strings", sha.Sum("", "", ""), summed(""))
}

func TestSumIsThirtyTwoBytesAndAlwaysTheSame(t *testing.T) {
	for _, n := range edges {
		first := sha.Sum(some(n))
		sha.Sum("something else", some(n+1))
		wantDigest(t, fmt.Sprintf("%d bytes once more", n), sha.Sum(some(n)), first)
		if len(first) != 32 {
			t.Errorf("the digest of %d bytes has %d bytes", n, len(first))
		}
	}
}

func TestSumLeavesItsPartsAlone(t *testing.T) {
	room := []string{"ab", "", "c", "behind", "the", "parts"}
	was := slices.Clone(room)
	wantDigest(t, "a part of a list", sha.Sum(room[:3]...), summed("abc"))
	if !slices.Equal(room, was) {
		t.Errorf("the list is %q afterwards, and was %q", room, was)
	}
}

// P6.1: Hex

func TestHexOfEachByte(t *testing.T) {
	all := ""
	for b := range 256 {
		s := string([]byte{byte(b)})
		all += s
		if got, want := sha.Hex(s), fmt.Sprintf("%02x", b); got != want {
			t.Errorf("Hex(%q): %q, want %q", s, got, want)
		}
	}
	if got, want := sha.Hex(all), hex.EncodeToString([]byte(all)); got != want {
		t.Errorf("Hex of all bytes: %s, want %s", got, want)
	}
}

func TestHexOfStrings(t *testing.T) {
	for s, want := range map[string]string{
		"":                     "",
		"\x00":                 "00",
		"\xff":                 "ff",
		"\x00\x00":             "0000",
		"\x09\x0a\x90\xa0":     "090a90a0",
		"abc":                  "616263",
		"grüße":                "6772c3bcc39f65",
		"\xc3\x28":             "c328",
		"\x12\xab\xcd\xef\x34": "12abcdef34",
	} {
		if got := sha.Hex(s); got != want {
			t.Errorf("Hex(%q): %q, want %q", s, got, want)
		}
	}
	for _, n := range append(edges, 1000, 1<<16) {
		if got, want := sha.Hex(some(n)), hex.EncodeToString([]byte(some(n))); got != want {
			t.Errorf("Hex of %d bytes: %s, want %s", n, got, want)
		}
	}
}

// P6.2

func TestMeterSumIsSum(t *testing.T) {
	m, none := new(sha.Meter), (*sha.Meter)(nil)
	for _, p := range published {
		wantDigest(t, p.what, m.Sum(p.s), sha.Sum(p.s))
		wantDigest(t, p.what+", by nil", none.Sum(p.s), sha.Sum(p.s))
	}
	for _, n := range edges {
		s := some(n)
		for _, parts := range [][]string{{s}, {s[:n/2], s[n/2:]}, {"", s, ""}, strings.Split(s, "")} {
			wantDigest(t, fmt.Sprintf("%d bytes", n), m.Sum(parts...), summed(s))
			wantDigest(t, fmt.Sprintf("%d bytes, by nil", n), none.Sum(parts...), summed(s))
		}
	}
	wantDigest(t, "no parts", m.Sum(), summed(""))
	wantDigest(t, "no parts, by nil", none.Sum(), summed(""))
}

func TestMeterCountsEachCall(t *testing.T) {
	m := &sha.Meter{}
	wantCount(t, "a new meter", m, 0)
	for i, parts := range [][]string{{"a"}, {}, nil, {""}, {"", ""}, {"a", "b", "c"}, {some(1000)}, {"a"}, {"a"}} {
		m.Sum(parts...)
		wantCount(t, fmt.Sprintf("after Sum(%q)", parts), m, i+1)
		wantCount(t, "asked once more", m, i+1)
	}
	for range 1000 {
		m.Sum()
	}
	wantCount(t, "after a thousand more", m, 1009)
}

func TestMeterCountsNothingElse(t *testing.T) {
	m := &sha.Meter{}
	sha.Sum("a")
	sha.Hex("a")
	(*sha.Meter)(nil).Sum("a")
	new(sha.Meter).Sum("a")
	wantCount(t, "a meter that nobody used", m, 0)
}

func TestNilMeterCountsNothing(t *testing.T) {
	var m *sha.Meter
	wantCount(t, "nil", m, 0)
	m.Sum("a")
	m.Sum()
	wantCount(t, "nil, after two calls", m, 0)
}

func TestMetersCountBesideOneAnother(t *testing.T) {
	var a, b sha.Meter
	a.Sum("x")
	a.Sum("y")
	b.Sum("x")
	wantCount(t, "the first", &a, 2)
	wantCount(t, "the second", &b, 1)
	b.Sum()
	a.Sum()
	wantCount(t, "the first, later", &a, 3)
	wantCount(t, "the second, later", &b, 2)
}

func TestMeterThatSeveralGoroutinesUse(t *testing.T) {
	const workers, calls = 16, 2000
	m := &sha.Meter{}
	s := some(70)
	want := summed(s)
	var all sync.WaitGroup
	start := make(chan struct{})
	for range workers {
		all.Go(func() {
			<-start
			last := 0
			for i := range calls {
				if got := m.Sum(s[:i%70], s[i%70:]); got != want {
					t.Errorf("%x, want %x", got, want)
				}
				n := m.Count()
				if n <= last || n <= i || n > workers*calls {
					t.Errorf("Count is %d after %d calls of one goroutine, and was %d ahead of the last of them", n, i+1, last)
				}
				last = n
			}
		})
	}
	close(start)
	all.Wait()
	wantCount(t, "after all of them", m, workers*calls)
}

// P6.3

func TestSumOfAStringPartedAtEveryPlace(t *testing.T) {
	for _, n := range edges {
		s := some(n)
		for i := range n + 1 {
			wantDigest(t, fmt.Sprintf("%d bytes, cut at %d", n, i), sha.Sum(s[:i], s[i:]), summed(s))
			wantDigest(t, fmt.Sprintf("%d bytes, cut at %d, nothing between", n, i), sha.Sum(s[:i], "", s[i:], ""), summed(s))
		}
	}
}

func TestSumOfAStringPartedAtEveryTwoPlaces(t *testing.T) {
	for _, n := range []int{3, 56, 64, 130} {
		s := some(n)
		for i := range n + 1 {
			for j := i; j <= n; j++ {
				wantDigest(t, fmt.Sprintf("%d bytes, cut at %d and %d", n, i, j), sha.Sum(s[:i], s[i:j], s[j:]), summed(s))
			}
		}
	}
}

func TestSumOfManyParts(t *testing.T) {
	s := some(1000)
	for size := 1; size <= len(s); size++ {
		var parts []string
		for part := range slices.Chunk([]byte(s), size) {
			parts = append(parts, string(part))
		}
		wantDigest(t, fmt.Sprintf("parts of %d bytes", size), sha.Sum(parts...), summed(s))
	}
	single := strings.Split(strings.Repeat("a", 100000), "")
	wantDigest(t, "many parts", sha.Sum(single...), summed(strings.Repeat("a", 100000)))
	wantDigest(t, "many empty parts", sha.Sum(make([]string, 100000)...), summed(""))
}

func TestSumKeepsToTheOrderOfItsParts(t *testing.T) {
	if sha.Sum("ab", "c") == sha.Sum("c", "ab") {
		t.Error("the order of the parts makes no difference")
	}
	if sha.Sum("ab") == sha.Sum("ab", "\x00") || sha.Sum("ab") == sha.Sum("ab", "\x80") {
		t.Error("a part that looks like padding makes no difference")
	}
}

// FuzzPromises holds all calls against the library.
func FuzzPromises(f *testing.F) {
	f.Add("", "", "")
	f.Add("abc", "", strings.Repeat("\xff", 60))
	f.Add(some(55), some(64), some(9))
	f.Fuzz(func(t *testing.T, x, y, z string) {
		m := new(sha.Meter)
		wantDigest(t, "Sum", sha.Sum(x, y, z), summed(x+y+z))
		wantDigest(t, "Sum of a meter", m.Sum(x, y+z), summed(x+y+z))
		wantCount(t, "the meter", m, 1)
		if got, want := sha.Hex(x), hex.EncodeToString([]byte(x)); got != want {
			t.Errorf("Hex(%q): %s, want %s", x, got, want)
		}
	})
}
