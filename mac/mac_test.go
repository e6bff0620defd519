package mac_test

import (
	"crypto/hmac"
	"crypto/pbkdf2"
	"crypto/sha256"
	"fmt"
	"math"
	"math/rand"
	"slices"
	"strings"
	"sync"
	"testing"
	"time"

	"homecoming/mac"
	"homecoming/sha"
)

// keySizes are the lengths of keys about which something changes, and some beside them.
var keySizes = []int{0, 1, 2, 31, 32, 33, 62, 63, 64, 65, 66, 127, 128, 129, 1000}

// some is n bytes, always the same.
func some(n int) string {
	b := make([]byte, n)
	rand.New(rand.NewSource(int64(n))).Read(b)
	return string(b)
}

// bytesFrom is n bytes that go up from the first one.
func bytesFrom(first, n int) string {
	b := make([]byte, n)
	for i := range b {
		b[i] = byte(first + i)
	}
	return string(b)
}

// turned is s with another byte at i.
func turned(s string, i int, mask byte) string {
	b := []byte(s)
	b[i] ^= mask
	return string(b)
}

// coded is the code of s under the key by the library.
func coded(key, s string) string {
	h := hmac.New(sha256.New, []byte(key))
	h.Write([]byte(s))
	return string(h.Sum(nil))
}

// derived is the derived key by the library.
func derived(t *testing.T, secret, salt string, rounds int) string {
	t.Helper()
	key, err := pbkdf2.Key(sha256.New, secret, []byte(salt), rounds, 32)
	if err != nil {
		t.Fatal(err)
	}
	return string(key)
}

// digestsOf is how many digests the document asks for a code under a key of n bytes.
func digestsOf(n int) int {
	if n > 64 {
		return 4
	}
	return 2
}

func wantBytes(t *testing.T, what, got, want string) {
	t.Helper()
	if got != want {
		t.Errorf("%s: %x, want %x", what, got, want)
	}
}

func wantNumber(t *testing.T, what string, got, want int) {
	t.Helper()
	if got != want {
		t.Errorf("%s: %d, want %d", what, got, want)
	}
}

// P7.1

// publishedCodes holds codes that were published with the algorithm, or for tests of it.
var publishedCodes = []struct{ what, key, s, code string }{
	{"the document's example", "key", "The quick brown fox jumps over the lazy dog", "f7bc83f430538424b13298e6aa6fb143ef4d59a14946175997479dbc2d1a3cd8"},
	{"nothing under an empty key", "", "", "b613679a0814d9ec772f95d778c35fc5ff1697c493715653c6c712144292c5ad"},
	{"RFC 4231, 1", strings.Repeat("\x0b", 20), "Hi There", "b0344c61d8db38535ca8afceaf0bf12b881dc200c9833da726e9376c2e32cff7"},
	{"RFC 4231, 2", "Jefe", "what do ya want for nothing?", "5bdcc146bf60754e6a042426089575c75a003f089d2739839dec58b964ec3843"},
	{"RFC 4231, 3", strings.Repeat("\xaa", 20), strings.Repeat("\xdd", 50), "773ea91e36800e46854db8ebd09181a72959098b3ef8c122d9635514ced565fe"},
	{"RFC 4231, 4", bytesFrom(1, 25), strings.Repeat("\xcd", 50), "82558a389a443c0ea4cc819899f2083a85f0faa3e578f8077a2e3ff46729665b"},
	{"RFC 4231, 6", strings.Repeat("\xaa", 131), "Test Using Larger Than Block-Size Key - Hash Key First", "60e431591ee0b67f0d8a26aacbf5b77f8e0bc6213728c5140546040f0ee37f54"},
	{"RFC 4231, 7", strings.Repeat("\xaa", 131), "This is a test using a larger than block-size key and a larger than block-size data. The key needs to be hashed before being used by the HMAC algorithm.", "9b09ffa71b942fcb27635fbcd5b0e944bfdc63644f0713938a7f51535c3a35e2"},
	{"a key of 32 bytes", bytesFrom(0, 32), "Sample message for keylen<blocklen", "a28cf43130ee696a98f14a37678b56bcfcbdd9e5cf69717fecf5480f0ebdf790"},
	{"a key of 64 bytes", bytesFrom(0, 64), "Sample message for keylen=blocklen", "8bb9a1db9806f20df7f77b82138c7914d174d59e13dc4d0169c9057b133e1d62"},
	{"a key of 100 bytes", bytesFrom(0, 100), "Sample message for keylen=blocklen", "bdccb6c72ddeadb500ae768386cb38cc41c63dbb0878ddb9c7a38a431b78378d"},
}

func TestMacOfPublishedStrings(t *testing.T) {
	for _, p := range publishedCodes {
		if got := sha.Hex(mac.Mac(nil, p.key, p.s)); got != p.code {
			t.Errorf("%s: %s, want %s", p.what, got, p.code)
		}
		if got := sha.Hex(mac.Mac(new(sha.Meter), p.key, p.s)); got != p.code {
			t.Errorf("%s, with a meter: %s, want %s", p.what, got, p.code)
		}
	}
}

func TestMacIsThatOfTheLibraryForEachLengthOfKey(t *testing.T) {
	for n := range 300 {
		for _, size := range []int{0, 1, 55, 56, 64, 100} {
			what := fmt.Sprintf("%d bytes under a key of %d", size, n)
			wantBytes(t, what, mac.Mac(nil, some(n), some(size)), coded(some(n), some(size)))
		}
	}
	for _, n := range []int{1 << 12, 1<<16 - 1, 1 << 16, 1 << 20} {
		wantBytes(t, fmt.Sprintf("a key of %d bytes", n), mac.Mac(nil, some(n), "s"), coded(some(n), "s"))
	}
}

func TestMacIsThatOfTheLibraryForEachLengthOfString(t *testing.T) {
	for size := range 300 {
		for _, n := range []int{0, 1, 63, 64, 65} {
			what := fmt.Sprintf("%d bytes under a key of %d", size, n)
			wantBytes(t, what, mac.Mac(nil, some(n), some(size)), coded(some(n), some(size)))
		}
	}
	wantBytes(t, "a long string", mac.Mac(nil, "k", some(1<<20)), coded("k", some(1<<20)))
}

func TestMacUnderEachByteAsAKey(t *testing.T) {
	for b := range 256 {
		for _, n := range []int{1, 63, 64, 65} {
			key := strings.Repeat(string([]byte{byte(b)}), n)
			wantBytes(t, fmt.Sprintf("%d times %02x", n, b), mac.Mac(nil, key, "s"), coded(key, "s"))
		}
	}
}

// A key is padded by bytes 0, so that those behind it make no difference up to 64 bytes.
func TestMacUnderAKeyWithBytesZeroBehindIt(t *testing.T) {
	for _, n := range []int{0, 1, 32, 62, 63, 64} {
		key := some(n)
		code := mac.Mac(nil, key, "s")
		for behind := range 70 {
			longer := key + strings.Repeat("\x00", behind)
			got := mac.Mac(nil, longer, "s")
			wantBytes(t, fmt.Sprintf("%d bytes and %d bytes 0", n, behind), got, coded(longer, "s"))
			if same := len(longer) <= 64 || behind == 0; (got == code) != same {
				t.Errorf("%d bytes and %d bytes 0: the same code as without them is %v, want %v", n, behind, !same, same)
			}
		}
	}
}

func TestMacUnderALongKeyIsThatUnderItsDigest(t *testing.T) {
	for _, n := range []int{65, 66, 128, 1000} {
		wantBytes(t, fmt.Sprintf("a key of %d bytes", n), mac.Mac(nil, some(n), "s"), mac.Mac(nil, sha.Sum(some(n)), "s"))
	}
	for _, n := range []int{0, 1, 63, 64} {
		if mac.Mac(nil, some(n), "s") == mac.Mac(nil, sha.Sum(some(n)), "s") {
			t.Errorf("a key of %d bytes is digested", n)
		}
	}
}

func TestMacOfParts(t *testing.T) {
	var none []string
	for _, n := range keySizes {
		key := some(n)
		wantBytes(t, "no part", mac.Mac(nil, key), coded(key, ""))
		wantBytes(t, "a nil list", mac.Mac(nil, key, none...), coded(key, ""))
		wantBytes(t, "an empty part", mac.Mac(nil, key, ""), coded(key, ""))
		wantBytes(t, "empty parts", mac.Mac(nil, key, "", "", ""), coded(key, ""))
		wantBytes(t, "three parts", mac.Mac(nil, key, "ab", "c", "de"), coded(key, "abcde"))
		wantBytes(t, "empty parts between", mac.Mac(nil, key, "", "ab", "", "c", ""), coded(key, "abc"))
		wantBytes(t, "parts with bytes 0", mac.Mac(nil, key, "\x00", "a\x00"), coded(key, "\x00a\x00"))
	}
	single := strings.Split(strings.Repeat("ab", 50000), "")
	wantBytes(t, "many parts", mac.Mac(nil, "k", single...), coded("k", strings.Repeat("ab", 50000)))
	wantBytes(t, "many empty parts", mac.Mac(nil, "k", make([]string, 100000)...), coded("k", ""))
}

func TestMacOfAStringPartedAtEveryPlace(t *testing.T) {
	s := some(140)
	for i := range len(s) + 1 {
		for _, key := range []string{"k", some(65)} {
			wantBytes(t, fmt.Sprintf("cut at %d", i), mac.Mac(nil, key, s[:i], s[i:]), coded(key, s))
		}
	}
}

func TestMacLeavesItsPartsAlone(t *testing.T) {
	room := []string{"ab", "", "c", "behind", "the", "parts"}
	was := slices.Clone(room)
	wantBytes(t, "a part of a list", mac.Mac(nil, "k", room[:3]...), coded("k", "abc"))
	wantBytes(t, "none of a list", mac.Mac(nil, "k", room[:0]...), coded("k", ""))
	if !slices.Equal(room, was) {
		t.Errorf("the list is %q afterwards, and was %q", room, was)
	}
}

func TestMacIsCountedByItsMeter(t *testing.T) {
	for _, n := range keySizes {
		for _, parts := range [][]string{nil, {""}, {"a"}, {"a", "b", "c"}, {some(1000)}, make([]string, 100)} {
			m := new(sha.Meter)
			code := mac.Mac(m, some(n), parts...)
			what := fmt.Sprintf("%d parts under a key of %d bytes", len(parts), n)
			wantNumber(t, what, m.Count(), digestsOf(n))
			wantBytes(t, what+", with a nil meter", mac.Mac(nil, some(n), parts...), code)
			mac.Mac(m, some(n), parts...)
			wantNumber(t, what+", once more", m.Count(), 2*digestsOf(n))
		}
	}
}

func TestMacByOneMeterInSeveralGoroutines(t *testing.T) {
	const workers, calls = 8, 200
	m := new(sha.Meter)
	var all sync.WaitGroup
	for worker := range workers {
		all.Go(func() {
			key := some(61 + worker)
			want := coded(key, "s")
			for range calls {
				if got := mac.Mac(m, key, "s"); got != want {
					t.Errorf("a key of %d bytes: %x, want %x", len(key), got, want)
				}
			}
		})
	}
	all.Wait()
	wantNumber(t, "four keys to 64 bytes, four above", m.Count(), calls*(4*2+4*4))
}

// P7.2

// publishedKeys holds derived keys that were published.
var publishedKeys = []struct {
	secret, salt string
	rounds       int
	key          string
}{
	{"password", "salt", 1, "120fb6cffcf8b32c43e7225256c4f837a86548c92ccc35480805987cb70be17b"},
	{"password", "salt", 2, "ae4d0c95af6b46d32d0adff928f06dd02a303f8ef3c251dfd6e2d85a95474c43"},
	{"passwd", "salt", 1, "55ac046e56e3089fec1691c22544b605f94185216dde0465e68b9d57c20dacbc"},
}

func TestDeriveOfPublishedSecrets(t *testing.T) {
	for _, p := range publishedKeys {
		if got := sha.Hex(mac.Derive(nil, p.secret, p.salt, p.rounds)); got != p.key {
			t.Errorf("%s, %s, %d rounds: %s, want %s", p.secret, p.salt, p.rounds, got, p.key)
		}
	}
}

func TestDeriveIsThatOfTheLibrary(t *testing.T) {
	for _, n := range keySizes {
		for _, size := range []int{0, 1, 16, 51, 52, 60, 64, 65, 200} {
			for _, rounds := range []int{1, 2, 3, 4, 17} {
				what := fmt.Sprintf("a secret of %d bytes, a salt of %d, %d rounds", n, size, rounds)
				wantBytes(t, what, mac.Derive(nil, some(n), some(size), rounds), derived(t, some(n), some(size), rounds))
			}
		}
	}
}

func TestDeriveForEachNumberOfRounds(t *testing.T) {
	for rounds := 1; rounds <= 130; rounds++ {
		wantBytes(t, fmt.Sprintf("%d rounds", rounds), mac.Derive(nil, "password", "salt", rounds), derived(t, "password", "salt", rounds))
	}
	for _, rounds := range []int{255, 256, 257, 998, 999, 1000} {
		for _, secret := range []string{"", "password", some(64), some(65)} {
			what := fmt.Sprintf("a secret of %d bytes, %d rounds", len(secret), rounds)
			wantBytes(t, what, mac.Derive(nil, secret, "salt", rounds), derived(t, secret, "salt", rounds))
		}
	}
}

func TestDeriveOfNothing(t *testing.T) {
	for _, rounds := range []int{1, 2, 1000} {
		wantBytes(t, "an empty secret", mac.Derive(nil, "", "salt", rounds), derived(t, "", "salt", rounds))
		wantBytes(t, "an empty salt", mac.Derive(nil, "password", "", rounds), derived(t, "password", "", rounds))
		wantBytes(t, "both empty", mac.Derive(nil, "", "", rounds), derived(t, "", "", rounds))
	}
}

func TestDeriveInOneRoundIsACode(t *testing.T) {
	for _, n := range keySizes {
		wantBytes(t, fmt.Sprintf("a secret of %d bytes", n), mac.Derive(nil, some(n), "salt", 1), mac.Mac(nil, some(n), "salt\x00\x00\x00\x01"))
	}
}

var wrongRounds = []int{0, -1, -2, -1000, 1001, 1002, 2000, 1<<16 + 1, 1<<32 + 1, math.MaxInt32, math.MaxInt, math.MinInt32, math.MinInt, math.MinInt + 1}

func TestDeriveInWrongRounds(t *testing.T) {
	for _, rounds := range wrongRounds {
		for _, n := range keySizes {
			m := new(sha.Meter)
			what := fmt.Sprintf("a secret of %d bytes, %d rounds", n, rounds)
			wantBytes(t, what, mac.Derive(m, some(n), "salt", rounds), "")
			wantBytes(t, what+", with a nil meter", mac.Derive(nil, some(n), "salt", rounds), "")
			wantNumber(t, what, m.Count(), 0)
		}
	}
}

func TestDeriveIsCountedByItsMeter(t *testing.T) {
	for _, n := range keySizes {
		for _, rounds := range []int{1, 2, 3, 4, 10, 1000} {
			m := new(sha.Meter)
			key := mac.Derive(m, some(n), "salt", rounds)
			what := fmt.Sprintf("a secret of %d bytes, %d rounds", n, rounds)
			wantNumber(t, what, m.Count(), rounds*digestsOf(n))
			wantNumber(t, what+", by Cost", mac.Cost(n, rounds), m.Count())
			wantBytes(t, what+", with a nil meter", mac.Derive(nil, some(n), "salt", rounds), key)
			wantNumber(t, what+", its bytes", len(key), 32)
		}
	}
}

// P7.3: Equal

func wantEqual(t *testing.T, a, b string, want bool) {
	t.Helper()
	if got := mac.Equal(a, b); got != want {
		t.Errorf("Equal(%q, %q): %v, want %v", a, b, got, want)
	}
	if got := mac.Equal(b, a); got != want {
		t.Errorf("Equal(%q, %q): %v, want %v", b, a, got, want)
	}
}

func TestEqualOfStrings(t *testing.T) {
	strs := []string{"", "\x00", "\x00\x00", "\x01", "\xff", "a", "A", "aa", "ab", "ba", "abc", "ab\x00", "\x00ab", "\x80", "ä", some(32), some(33), some(1000)}
	for i, a := range strs {
		for j, b := range strs {
			wantEqual(t, a, strings.Clone(b), i == j)
		}
	}
}

func TestEqualOfUnequalLength(t *testing.T) {
	s := some(100)
	for i := range s {
		wantEqual(t, s, s[:i], false)
		wantEqual(t, s, s[i+1:], false)
	}
	for n := range 300 {
		wantEqual(t, strings.Repeat("\x00", n), strings.Repeat("\x00", n+1), false)
		wantEqual(t, "", strings.Repeat("\x00", 256*n+256), false)
	}
}

func TestEqualWithOneByteTurnedAtEveryPlace(t *testing.T) {
	for _, n := range []int{1, 2, 7, 8, 9, 31, 32, 33, 64, 100, 300} {
		s := some(n)
		wantEqual(t, s, strings.Clone(s), true)
		for i := range n {
			for bit := range 8 {
				wantEqual(t, s, turned(s, i, 1<<bit), false)
			}
			wantEqual(t, s, turned(s, i, 0xff), false)
		}
	}
}

// Differences that would cancel each other, if they were added or combined by exclusive or.
func TestEqualWithSeveralBytesTurned(t *testing.T) {
	s := some(32)
	for i := range s {
		for j := range i {
			for _, mask := range []byte{1, 0x55, 0x80, 0xff} {
				wantEqual(t, s, turned(turned(s, i, mask), j, mask), false)
			}
		}
	}
	for a := range 256 {
		for b := range 256 {
			x, y := string([]byte{byte(a)}), string([]byte{byte(b)})
			wantEqual(t, x, y, a == b)
			wantEqual(t, x+y, y+x, a == b)
		}
	}
	wantEqual(t, strings.Repeat("\x00", 256), strings.Repeat("\x01", 256), false)
	wantEqual(t, strings.Repeat("a", 512), strings.Repeat("b", 512), false)
}

// fastest is how long the fastest of a few calls of Equal took.
func fastest(a, b string) time.Duration {
	least := time.Duration(math.MaxInt64)
	for range 7 {
		begin := time.Now()
		mac.Equal(a, b)
		least = min(least, time.Since(begin))
	}
	return least
}

// A comparison that ends at the first difference is faster by orders of magnitude than this test allows.
func TestEqualGoesOnBehindADifference(t *testing.T) {
	s := strings.Repeat("a", 1<<22)
	whole := fastest(s, strings.Clone(s))
	for _, i := range []int{0, 1, 1000} {
		if part := fastest(s, turned(s, i, 1)); part < whole/50 {
			t.Errorf("it took %v with a difference at %d, and %v without one", part, i, whole)
		}
	}
}

// P7.3: Cost

func TestCost(t *testing.T) {
	for _, n := range []int{math.MinInt, math.MinInt32, -65, -64, -1, 0, 1, 8, 63, 64} {
		for _, rounds := range []int{1, 2, 3, 4, 500, 999, 1000} {
			wantNumber(t, fmt.Sprintf("Cost(%d, %d)", n, rounds), mac.Cost(n, rounds), 2*rounds)
		}
	}
	for _, n := range []int{65, 66, 128, 1000, 1 << 16, math.MaxInt32, math.MaxInt} {
		for _, rounds := range []int{1, 2, 3, 4, 500, 999, 1000} {
			wantNumber(t, fmt.Sprintf("Cost(%d, %d)", n, rounds), mac.Cost(n, rounds), 4*rounds)
		}
	}
}

func TestCostOfWrongRounds(t *testing.T) {
	for _, rounds := range wrongRounds {
		for _, n := range []int{math.MinInt, -1, 0, 1, 64, 65, 1000, math.MaxInt} {
			wantNumber(t, fmt.Sprintf("Cost(%d, %d)", n, rounds), mac.Cost(n, rounds), 0)
		}
	}
}

// P7.4

func TestAnotherKeyGivesAnotherCode(t *testing.T) {
	codes := map[string]string{}
	see := func(what, code string) {
		t.Helper()
		if was, ok := codes[code]; ok {
			t.Errorf("%s has the code of %s", what, was)
		}
		codes[code] = what
	}
	for _, n := range []int{1, 32, 63, 64, 65, 100} {
		key := some(n)
		see(fmt.Sprintf("a key of %d bytes", n), mac.Mac(nil, key, "s"))
		for i := range n {
			see(fmt.Sprintf("a key of %d bytes, turned at %d", n, i), mac.Mac(nil, turned(key, i, 1), "s"))
			see(fmt.Sprintf("a key of %d bytes, turned at %d by the masks", n, i), mac.Mac(nil, turned(key, i, 0x5c^0x36), "s"))
		}
	}
	for n := range 200 {
		see(fmt.Sprintf("%d times k", n), mac.Mac(nil, strings.Repeat("k", n), "s"))
	}
	see("the string as a part of the key", mac.Mac(nil, "ks"))
}

func TestAnotherStringGivesAnotherCode(t *testing.T) {
	for _, key := range []string{"", "k", some(64), some(65)} {
		codes := map[string]string{}
		see := func(what, code string) {
			t.Helper()
			if was, ok := codes[code]; ok {
				t.Errorf("%s has the code of %s under a key of %d bytes", what, was, len(key))
			}
			codes[code] = what
		}
		for n := range 200 {
			see(fmt.Sprintf("%d bytes 0", n), mac.Mac(nil, key, strings.Repeat("\x00", n)))
		}
		s := some(130)
		see("130 bytes", mac.Mac(nil, key, s))
		for i := range s {
			see(fmt.Sprintf("130 bytes, turned at %d", i), mac.Mac(nil, key, turned(s, i, 1)))
		}
	}
}

func TestAnotherSecretSaltOrNumberOfRoundsGivesAnotherKey(t *testing.T) {
	keys := map[string]string{}
	for _, secret := range []string{"", "a", "b", "ab", some(64), some(65)} {
		for _, salt := range []string{"", "a", "b", "ab", "\x00", "\x00\x00\x00\x01"} {
			for rounds := 1; rounds <= 5; rounds++ {
				what := fmt.Sprintf("Derive(%q, %q, %d)", secret, salt, rounds)
				key := mac.Derive(nil, secret, salt, rounds)
				if was, ok := keys[key]; ok {
					t.Errorf("%s is %s", what, was)
				}
				keys[key] = what
			}
		}
	}
}

// R3, R4

func TestEqualCallsReturnEqualResults(t *testing.T) {
	for _, n := range keySizes {
		code, key := mac.Mac(nil, some(n), "a", "b"), mac.Derive(nil, some(n), "salt", 4)
		mac.Mac(nil, "something", "else")
		mac.Derive(nil, "something", "else", 3)
		wantBytes(t, fmt.Sprintf("Mac under %d bytes once more", n), mac.Mac(nil, some(n), "a", "b"), code)
		wantBytes(t, fmt.Sprintf("Derive of %d bytes once more", n), mac.Derive(nil, some(n), "salt", 4), key)
	}
}
