package mint_test

import (
	"crypto/sha256"
	"encoding/base32"
	"encoding/binary"
	"fmt"
	"math"
	"math/big"
	"math/rand"
	"strings"
	"sync"
	"testing"

	"homecoming/address"
	"homecoming/api"
	"homecoming/mint"
	"homecoming/sha"
	"homecoming/token"
)

// maxTime is the last time there is, as the document has it.
const maxTime = int64(1) << 40

// lives and tries are those of the purposes, by their numbers, as the document has them.
var (
	lives = map[int]int64{1: 600, 2: 60, 3: 120, 4: 30, 5: 120, 6: 2000}
	tries = map[int]int{1: 5, 2: 5, 3: 5, 4: 3, 5: 5, 6: 5}
)

// noPurposes are numbers that are no purposes, some of which would be if only some of their bits were looked at.
var noPurposes = []int{
	0, 7, 8, 9, 10, 64, 127, 128, 255, 256, 257, 258, 260, 262, 263, 512 + 4, 1<<16 + 2, 1<<31 + 1, 1<<32 + 4, 1<<62 + 3,
	-1, -2, -4, -6, -7, -252, -255, -256, -1<<32 + 4, -1<<62 + 1, math.MaxInt - 1, math.MaxInt, math.MinInt, math.MinInt + 1, math.MinInt + 4,
}

// noAccounts are numbers that no account has.
var noAccounts = []int{0, 100, 101, 255, 256, 257, 1<<16 + 1, 1<<32 + 1, -1, -2, -99, -100, -255, -1<<32 + 1, math.MaxInt, math.MinInt, math.MinInt + 1}

// noTimes are those ahead of the first and behind the last one.
var noTimes = []int64{-1, -2, -30, -maxTime, -1<<32 + 1, math.MinInt64, math.MinInt64 + 1, maxTime + 1, maxTime + 30, 2 * maxTime, math.MaxInt64 - 1, math.MaxInt64}

// channels are addresses, and noChannels strings that are none, some of which only have to be normalized.
var (
	channels   = []string{"a@b.c", "ann.b@example.org", "+12345678", "+123456789012345", strings.Repeat("a", 36) + "@b.c"}
	noChannels = []string{
		"", "here", "ann.b", "@example.org", "ann@", "ann@example", "Ann@example.org", "ann+news@example.org", " ann@example.org", "ann@example.org ",
		"ann@example.org\n", "ann@@example.org", "12345678", "+1234567", "+02345678", "+1234567890123456", "+1 2345678", "+49-301234567", "+12345678\x00",
		strings.Repeat("a", 37) + "@b.c", strings.Repeat("a", 1000) + "@b.c", "\xff", "***", "1", "2",
	}
)

// draws is n draws, always the same, behind some in which each byte is the same.
func draws(n int) []string {
	var l []string
	for b := range 256 {
		l = append(l, strings.Repeat(string([]byte{byte(b)}), 10))
	}
	source := rand.New(rand.NewSource(10))
	for range n {
		b := make([]byte, 10)
		source.Read(b)
		l = append(l, string(b))
	}
	return l
}

// drawOf is a draw whose first eight bytes make n.
func drawOf(n uint64, last string) string {
	return string(binary.BigEndian.AppendUint64(nil, n)) + last
}

// modelClean is what a text is without blanks, tabs and dashes, in small letters.
func modelClean(s string) string {
	s = strings.NewReplacer(" ", "", "\t", "", "-", "").Replace(s)
	b := []byte(s)
	for i := range b {
		if 'A' <= b[i] && b[i] <= 'Z' {
			b[i] += 'a' - 'A'
		}
	}
	return string(b)
}

// modelDigest is Digest by the document's words and the library.
func modelDigest(purpose int, plain string) string {
	rest := new(big.Int).Mod(big.NewInt(int64(purpose)), big.NewInt(256))
	sum := sha256.Sum256([]byte(string([]byte{byte(rest.Int64())}) + modelClean(plain)))
	return string(sum[:])
}

// modelPlain is Plain by the document's words and the library.
func modelPlain(purpose int, draw string) (string, bool) {
	if lives[purpose] == 0 || len(draw) != 10 {
		return "", false
	}
	if purpose != 4 {
		return strings.ToLower(base32.StdEncoding.EncodeToString([]byte(draw))), true
	}
	n := new(big.Int).SetBytes([]byte(draw[:8]))
	return fmt.Sprintf("%06d", n.Mod(n, big.NewInt(1000000))), true
}

// modelClock is Clock by the document's words, with numbers that do not overflow.
func modelClock(now, ticks int64) int64 {
	if now < 0 || ticks < 0 {
		return 0
	}
	sum := new(big.Int).Add(big.NewInt(now), big.NewInt(ticks))
	if sum.Cmp(big.NewInt(maxTime)) > 0 {
		return maxTime
	}
	return sum.Int64()
}

// modelRight is Right by the document's words.
func modelRight(s api.Secret) bool {
	return len(s.Digest) == 32 && s.Account >= 1 && s.Account <= 99 && lives[s.Purpose] != 0 && address.Kind(s.Channel) != 0 &&
		s.Expires >= 0 && s.Expires <= maxTime && s.Tries >= 1 && s.Tries <= tries[s.Purpose]
}

// asked is a secret with only those fields that Mint looks at.
func asked(account, purpose int, channel string) api.Secret {
	return api.Secret{Account: account, Purpose: purpose, Channel: channel}
}

// valid is a secret that is valid.
func valid(purpose int) api.Secret {
	s := asked(3, purpose, "ann@example.org")
	s.Digest, s.Expires, s.Tries = strings.Repeat("d", 32), 100, tries[purpose]
	return s
}

func wantString(t *testing.T, what, got, want string) {
	t.Helper()
	if got != want {
		t.Errorf("%s: %q, want %q", what, got, want)
	}
}

func wantNumber(t *testing.T, what string, got, want int64) {
	t.Helper()
	if got != want {
		t.Errorf("%s: %d, want %d", what, got, want)
	}
}

func wantTruth(t *testing.T, what string, got, want bool) {
	t.Helper()
	if got != want {
		t.Errorf("%s: %v, want %v", what, got, want)
	}
}

// wantPlain asks that Plain returned what it should.
func wantPlain(t *testing.T, purpose int, draw, plain string, ok bool) {
	t.Helper()
	got, is := mint.Plain(purpose, draw)
	wantString(t, fmt.Sprintf("Plain(%d, %q)", purpose, draw), fmt.Sprint(got, " ", is), fmt.Sprint(plain, " ", ok))
}

// wantDigest asks that Digest returned what it should, with and without a meter, and counted one.
func wantDigest(t *testing.T, purpose int, plain string) {
	t.Helper()
	want := modelDigest(purpose, plain)
	m := new(sha.Meter)
	what := fmt.Sprintf("Digest(%d, %.80q)", purpose, plain)
	wantString(t, what, mint.Digest(m, purpose, plain), want)
	wantString(t, what+" without a meter", mint.Digest(nil, purpose, plain), want)
	wantNumber(t, what+" counted", int64(m.Count()), 1)
}

// wantMinted asks that Mint created the right secret, and that it counted one digest.
func wantMinted(t *testing.T, s api.Secret, draw string, now int64) {
	t.Helper()
	what := fmt.Sprintf("Mint(%+v, %q, %d)", s, draw, now)
	plain, _ := modelPlain(s.Purpose, draw)
	want := api.Secret{
		Digest: modelDigest(s.Purpose, plain), Account: s.Account, Purpose: s.Purpose, Channel: s.Channel,
		Expires: modelClock(now, lives[s.Purpose]), Tries: tries[s.Purpose],
	}
	for _, m := range []*sha.Meter{nil, new(sha.Meter)} {
		got, secret, ok := mint.Mint(m, s, draw, now)
		wantTruth(t, what, ok, true)
		wantString(t, what+": plain text", got, plain)
		if secret != want {
			t.Errorf("%s: %+v, want %+v", what, secret, want)
		}
		if m != nil {
			wantNumber(t, what+" counted", int64(m.Count()), 1)
		}
		wantTruth(t, what+": Right", mint.Right(secret), true)
	}
}

// wantRefused asks that Mint created nothing.
func wantRefused(t *testing.T, s api.Secret, draw string, now int64) {
	t.Helper()
	plain, secret, ok := mint.Mint(new(sha.Meter), s, draw, now)
	if plain != "" || secret != (api.Secret{}) || ok {
		t.Errorf("Mint(%+v, %q, %d): %q, %+v, %v, want nothing", s, draw, now, plain, secret, ok)
	}
}

// wantRight asks that Right says what it should, and what the model does.
func wantRight(t *testing.T, s api.Secret, want bool) {
	t.Helper()
	wantTruth(t, fmt.Sprintf("Right(%+v)", s), mint.Right(s), want)
	wantTruth(t, fmt.Sprintf("Right(%+v) by the model", s), modelRight(s), want)
}

// P10.1: lifetimes and numbers of tries.

func TestTerms(t *testing.T) {
	for _, x := range []struct {
		purpose int
		life    int64
		tries   int
	}{
		{api.Verify, 600, 5}, {api.Login, 60, 5}, {api.Reset, 120, 5}, {api.Code, 30, 3}, {api.Change, 120, 5}, {api.Vouch, 2000, 5},
	} {
		wantNumber(t, fmt.Sprintf("Life(%d)", x.purpose), mint.Life(x.purpose), x.life)
		wantNumber(t, fmt.Sprintf("Tries(%d)", x.purpose), int64(mint.Tries(x.purpose)), int64(x.tries))
	}
}

func TestTermsOfNoPurpose(t *testing.T) {
	for _, purpose := range noPurposes {
		wantNumber(t, fmt.Sprintf("Life(%d)", purpose), mint.Life(purpose), 0)
		wantNumber(t, fmt.Sprintf("Tries(%d)", purpose), int64(mint.Tries(purpose)), 0)
	}
	for purpose := -1000; purpose <= 1000; purpose++ {
		wantNumber(t, fmt.Sprintf("Life(%d)", purpose), mint.Life(purpose), lives[purpose])
		wantNumber(t, fmt.Sprintf("Tries(%d)", purpose), int64(mint.Tries(purpose)), int64(tries[purpose]))
	}
}

// P10.1: the plain text of a draw.

func TestPlainExamples(t *testing.T) {
	zero := strings.Repeat("\x00", 10)
	for _, purpose := range []int{api.Verify, api.Login, api.Reset, api.Change, api.Vouch} {
		wantPlain(t, purpose, zero, "aaaaaaaaaaaaaaaa", true)
		wantPlain(t, purpose, "ten bytes.", "orsw4idcpf2gk4zo", true)
	}
	wantPlain(t, api.Code, zero, "000000", true)
	wantPlain(t, api.Code, "\x00\x00\x00\x00\x00\x01\x00\x02zz", "065538", true)
}

func TestPlainOfCodeIsOfEightBytes(t *testing.T) {
	for _, x := range []struct {
		n    uint64
		code string
	}{
		{0, "000000"}, {1, "000001"}, {255, "000255"}, {256, "000256"}, {65536, "065536"}, {999999, "999999"}, {1000000, "000000"}, {1000001, "000001"},
		{1 << 32, "967296"}, {1 << 56, "927936"}, {1<<63 - 1, "775807"}, {1 << 63, "775808"}, {math.MaxUint64 - 1, "551614"}, {math.MaxUint64, "551615"},
		{math.MaxUint64 - 551615, "000000"}, {math.MaxUint64 - 551616, "999999"},
	} {
		for _, last := range []string{"\x00\x00", "\x00\x01", "\x01\x00", "zz", "\xff\xff"} {
			wantPlain(t, api.Code, drawOf(x.n, last), x.code, true)
		}
	}
}

func TestPlainOfDrawsThatDifferInTheLastBytes(t *testing.T) {
	seen := map[string]bool{}
	for last := range 1 << 16 {
		draw := "12345678" + string([]byte{byte(last >> 8), byte(last)})
		wantPlain(t, api.Code, draw, "063160", true)
		plain, ok := mint.Plain(api.Login, draw)
		wantTruth(t, draw, ok && !seen[plain], true)
		seen[plain] = true
	}
}

func TestPlainOfEachByte(t *testing.T) {
	for i := range 10 {
		for b := range 256 {
			draw := []byte("\x00\x01\x7f\x80\xfe\xff@\x00\x00\xff")
			draw[i] = byte(b)
			for purpose := range 9 {
				plain, ok := modelPlain(purpose, string(draw))
				wantPlain(t, purpose, string(draw), plain, ok)
			}
		}
	}
}

func TestPlainOfManyDraws(t *testing.T) {
	for _, draw := range draws(3000) {
		for purpose := range 9 {
			plain, ok := modelPlain(purpose, draw)
			wantPlain(t, purpose, draw, plain, ok)
		}
	}
}

func TestPlainOfDrawsOfOtherSizes(t *testing.T) {
	for n := range 300 {
		for purpose := -1; purpose <= 7; purpose++ {
			if n != 10 {
				wantPlain(t, purpose, strings.Repeat("d", n), "", false)
			}
		}
	}
	for _, n := range []int{256 + 10, 1<<16 + 10, 1 << 20} {
		wantPlain(t, api.Code, strings.Repeat("\x00", n), "", false)
		wantPlain(t, api.Vouch, strings.Repeat("\x00", n), "", false)
	}
}

func TestPlainOfNoPurpose(t *testing.T) {
	for _, purpose := range noPurposes {
		for _, n := range []int{0, 8, 9, 10, 11} {
			wantPlain(t, purpose, strings.Repeat("\x00", n), "", false)
		}
	}
}

// P10.1: digests.

// typedTexts are plain texts in all sorts of spellings, and strings that are none.
var typedTexts = []string{
	"", " ", "-", " \t-\t ", "000000", "065538", "065 538", "065-538", "0-6-5-5-3-8", " 065538\t", "orsw4idcpf2gk4zo", "ORSW4IDCPF2GK4ZO",
	"orsw-4idc-pf2g-k4zo", "ORSW 4idc\tPf2G--k4Zo ", "az", "AZ", "@[`{", "aZ\nAz", "a\u00a0b", "a\u2010b", "\u212a", "ÄÖÜ", "\xff\x80A\xc3-\xbf", "\x00", "a\x00-B",
	"\x04000000", strings.Repeat("A- ", 1000), strings.Repeat("a", 55), strings.Repeat("a", 63), strings.Repeat("a", 64), strings.Repeat("\t", 100000),
}

func TestDigestExamples(t *testing.T) {
	for _, x := range []struct{ plain, digits string }{
		{"065538", "\x04065538"}, {"065-538", "\x04065538"}, {" 065 538\t", "\x04065538"}, {"", "\x04"}, {"--", "\x04"}, {"AbC", "\x04abc"},
	} {
		sum := sha256.Sum256([]byte(x.digits))
		wantString(t, x.plain, mint.Digest(nil, api.Code, x.plain), string(sum[:]))
	}
	wantString(t, "no digits", sha.Hex(mint.Digest(nil, 97, "B-c")), "ba7816bf8f01cfea414140de5dae2223b00361a396177a9cb410ff61f20015ad")
}

func TestDigestOfTypedTexts(t *testing.T) {
	for _, plain := range typedTexts {
		for purpose := range 9 {
			wantDigest(t, purpose, plain)
		}
	}
	for b := range 256 {
		wantDigest(t, api.Login, "a"+string([]byte{byte(b)})+"B")
	}
}

func TestDigestOfNoPurpose(t *testing.T) {
	for _, purpose := range noPurposes {
		wantDigest(t, purpose, "ORSW-4idc")
	}
	for purpose := -600; purpose <= 600; purpose++ {
		wantDigest(t, purpose, "065-538")
	}
}

func TestDigestOfPurposesAlikeModulo256(t *testing.T) {
	for _, x := range [][2]int{{0, 256}, {4, 260}, {-1, 255}, {-252, 4}, {-256, 0}, {255, math.MaxInt}, {0, math.MinInt}, {4, math.MinInt + 4}, {2, 1<<32 + 2}} {
		what := fmt.Sprint("digests of ", x)
		wantString(t, what, mint.Digest(nil, x[0], "plain"), mint.Digest(nil, x[1], "plain"))
	}
	seen := map[string]int{}
	for purpose := range 1024 {
		seen[mint.Digest(nil, purpose, "plain")]++
	}
	wantNumber(t, "different digests", int64(len(seen)), 256)
}

func TestDigestsAreCounted(t *testing.T) {
	m := new(sha.Meter)
	var all sync.WaitGroup
	for i := range 8 {
		all.Go(func() {
			for n := range 50 {
				mint.Digest(m, i, strings.Repeat("a-", n))
			}
		})
	}
	all.Wait()
	wantNumber(t, "digests", int64(m.Count()), 400)
}

// P10.2: the clock.

func TestClock(t *testing.T) {
	for _, x := range [][3]int64{
		{0, 0, 0}, {0, 1, 1}, {1, 0, 1}, {100, 30, 130}, {maxTime, 0, maxTime}, {0, maxTime, maxTime}, {maxTime - 1, 0, maxTime - 1}, {0, maxTime - 1, maxTime - 1},
		{maxTime - 1, 1, maxTime}, {1, maxTime - 1, maxTime}, {1, maxTime - 2, maxTime - 1}, {maxTime - 2, 1, maxTime - 1}, {maxTime - 1, 2, maxTime}, {maxTime, 1, maxTime},
		{0, maxTime + 1, maxTime}, {maxTime + 1, 0, maxTime}, {maxTime + 1, 5, maxTime}, {maxTime, maxTime, maxTime}, {math.MaxInt64, 0, maxTime}, {0, math.MaxInt64, maxTime},
		{math.MaxInt64, 1, maxTime}, {1, math.MaxInt64, maxTime}, {math.MaxInt64, math.MaxInt64, maxTime}, {1 << 62, 1 << 62, maxTime}, {maxTime, math.MaxInt64 - maxTime, maxTime},
		{-1, 0, 0}, {0, -1, 0}, {-1, 1, 0}, {1, -1, 0}, {-1, 5, 0}, {5, -1, 0}, {-1, -1, 0}, {-1, maxTime, 0}, {maxTime, -1, 0}, {maxTime + 5, -5, 0},
		{math.MinInt64, 0, 0}, {0, math.MinInt64, 0}, {math.MinInt64, math.MinInt64, 0}, {math.MinInt64, math.MaxInt64, 0}, {math.MaxInt64, math.MinInt64, 0}, {math.MaxInt64, -1, 0},
		{-1, math.MaxInt64, 0}, {-1, math.MinInt64, 0},
	} {
		wantNumber(t, fmt.Sprintf("Clock(%d, %d)", x[0], x[1]), mint.Clock(x[0], x[1]), x[2])
	}
}

func TestClockByTheModel(t *testing.T) {
	var all []int64
	for _, middle := range []int64{0, 600, maxTime / 2, maxTime, 2 * maxTime, 1 << 62, math.MaxInt64, math.MinInt64, -maxTime, 1 << 32} {
		for d := int64(-3); d <= 3; d++ {
			all = append(all, middle+d)
		}
	}
	source := rand.New(rand.NewSource(40))
	for range 100 {
		all = append(all, source.Int63n(maxTime), int64(source.Uint64()))
	}
	for _, now := range all {
		for _, ticks := range all {
			wantNumber(t, fmt.Sprintf("Clock(%d, %d)", now, ticks), mint.Clock(now, ticks), modelClock(now, ticks))
		}
	}
}

// P10.2: creation.

func TestMintExamples(t *testing.T) {
	plain, secret, ok := mint.Mint(nil, asked(3, api.Code, "+12345678"), "\x00\x00\x00\x00\x00\x01\x00\x02zz", 100)
	wantTruth(t, "Mint of a code", ok, true)
	wantString(t, "plain text", plain, "065538")
	if want := (api.Secret{Digest: sha.Sum("\x04065538"), Account: 3, Purpose: 4, Channel: "+12345678", Expires: 130, Tries: 3}); secret != want {
		t.Errorf("a code: %+v, want %+v", secret, want)
	}
	plain, secret, ok = mint.Mint(nil, asked(99, api.Vouch, "ann@example.org"), "ten bytes.", 0)
	wantTruth(t, "Mint of a token", ok, true)
	wantString(t, "plain text", plain, "orsw4idcpf2gk4zo")
	if want := (api.Secret{Digest: sha.Sum("\x06orsw4idcpf2gk4zo"), Account: 99, Purpose: 6, Channel: "ann@example.org", Expires: 2000, Tries: 5}); secret != want {
		t.Errorf("a token: %+v, want %+v", secret, want)
	}
}

func TestMintOfAllPurposesAndChannels(t *testing.T) {
	for purpose := 1; purpose <= 6; purpose++ {
		for _, channel := range channels {
			wantMinted(t, asked(7, purpose, channel), "0123456789", 5)
		}
	}
}

func TestMintOfAccounts(t *testing.T) {
	for account := -300; account <= 300; account++ {
		s := asked(account, api.Login, "ann@example.org")
		if 1 <= account && account <= 99 {
			wantMinted(t, s, "0123456789", 5)
		} else {
			wantRefused(t, s, "0123456789", 5)
		}
	}
	for _, account := range noAccounts {
		wantRefused(t, asked(account, api.Code, "+12345678"), "0123456789", 5)
	}
}

func TestMintOfNoPurpose(t *testing.T) {
	for _, purpose := range noPurposes {
		wantRefused(t, asked(3, purpose, "ann@example.org"), "0123456789", 5)
	}
}

func TestMintOfNoChannel(t *testing.T) {
	for _, channel := range noChannels {
		for purpose := 1; purpose <= 6; purpose++ {
			wantRefused(t, asked(3, purpose, channel), "0123456789", 5)
		}
	}
}

func TestMintOfNoDraw(t *testing.T) {
	for n := range 30 {
		for purpose := 1; n != 10 && purpose <= 6; purpose++ {
			wantRefused(t, asked(3, purpose, "ann@example.org"), strings.Repeat("d", n), 5)
		}
	}
	wantRefused(t, asked(3, api.Reset, "ann@example.org"), strings.Repeat("d", 1<<16+10), 5)
}

func TestMintOfTimes(t *testing.T) {
	for purpose := 1; purpose <= 6; purpose++ {
		s := asked(3, purpose, "ann@example.org")
		life := lives[purpose]
		for _, now := range []int64{0, 1, 1 << 32, maxTime - life - 1, maxTime - life, maxTime - life + 1, maxTime - 1, maxTime} {
			wantMinted(t, s, "0123456789", now)
		}
		for _, now := range noTimes {
			wantRefused(t, s, "0123456789", now)
		}
	}
}

func TestMintOfOtherFields(t *testing.T) {
	for purpose := 1; purpose <= 6; purpose++ {
		for _, digest := range []string{"", "d", strings.Repeat("d", 32), strings.Repeat("d", 33)} {
			for _, expires := range []int64{0, 5, -1, maxTime + 1, math.MinInt64, math.MaxInt64} {
				for _, tries := range []int{0, 1, 5, 6, -1, math.MaxInt, math.MinInt} {
					s := asked(3, purpose, "+12345678")
					s.Digest, s.Expires, s.Tries = digest, expires, tries
					wantMinted(t, s, "0123456789", 5)
				}
			}
		}
	}
}

// A refused creation computes no digest that a meter would count.
func TestMintOfNothingCountsNothing(t *testing.T) {
	m := new(sha.Meter)
	mint.Mint(m, asked(0, api.Code, "+12345678"), "0123456789", 5)
	mint.Mint(m, asked(3, 7, "+12345678"), "0123456789", 5)
	mint.Mint(m, asked(3, api.Code, "here"), "0123456789", 5)
	mint.Mint(m, asked(3, api.Code, "+12345678"), "012345678", 5)
	mint.Mint(m, asked(3, api.Code, "+12345678"), "0123456789", -1)
	wantNumber(t, "digests", int64(m.Count()), 0)
}

// P10.2: what is valid.

func TestRight(t *testing.T) {
	for purpose := 1; purpose <= 6; purpose++ {
		wantRight(t, valid(purpose), true)
	}
	wantRight(t, api.Secret{}, false)
}

func TestRightOfDigests(t *testing.T) {
	for n := range 300 {
		s := valid(api.Login)
		s.Digest = strings.Repeat("\x00", n)
		wantRight(t, s, n == 32)
	}
	s := valid(api.Code)
	s.Digest = strings.Repeat("ä", 32) // as many runes as a digest has bytes
	wantRight(t, s, false)
	s.Digest = strings.Repeat("ä", 16)
	wantRight(t, s, true)
	s.Digest = strings.Repeat("d", 1<<16+32)
	wantRight(t, s, false)
}

func TestRightOfAccounts(t *testing.T) {
	for account := -300; account <= 300; account++ {
		s := valid(api.Change)
		s.Account = account
		wantRight(t, s, 1 <= account && account <= 99)
	}
	for _, account := range noAccounts {
		s := valid(api.Change)
		s.Account = account
		wantRight(t, s, false)
	}
}

func TestRightOfPurposes(t *testing.T) {
	for _, purpose := range noPurposes {
		for _, tries := range []int{0, 1, 3, 5} {
			s := valid(api.Verify)
			s.Purpose, s.Tries = purpose, tries
			wantRight(t, s, false)
		}
	}
}

func TestRightOfChannels(t *testing.T) {
	s := valid(api.Verify)
	for _, s.Channel = range channels {
		wantRight(t, s, true)
	}
	for _, s.Channel = range noChannels {
		wantRight(t, s, false)
	}
}

func TestRightOfTimes(t *testing.T) {
	s := valid(api.Verify)
	for _, s.Expires = range []int64{0, 1, 600, 1 << 32, maxTime - 1, maxTime} {
		wantRight(t, s, true)
	}
	for _, s.Expires = range noTimes {
		wantRight(t, s, false)
	}
}

func TestRightOfTries(t *testing.T) {
	for purpose := 1; purpose <= 6; purpose++ {
		s := valid(purpose)
		for n := -300; n <= 300; n++ {
			s.Tries = n
			wantRight(t, s, 1 <= n && (n <= 3 || n <= 5 && purpose != 4))
		}
		for _, s.Tries = range []int{math.MinInt, math.MinInt + 3, math.MaxInt, 1<<32 + 1, -1<<32 + 1} {
			wantRight(t, s, false)
		}
	}
}

// P10.3: what is created is valid, and has its digest however it is typed.

// spellings are ways of typing a plain text.
func spellings(plain string) []string {
	upper := strings.ToUpper(plain)
	l := []string{plain, upper, " " + plain + "\t", "--" + upper + " - "}
	for _, n := range []int{1, 2, 3, 4, 5, 8} {
		l = append(l, token.Group(plain, n), token.Group(upper, n), strings.ReplaceAll(token.Group(upper, n), "-", " "), strings.ReplaceAll(token.Group(plain, n), "-", " \t-"))
	}
	return l
}

func TestMintedIsRightAndHasItsDigest(t *testing.T) {
	for i, draw := range draws(1000) {
		for purpose := 1; purpose <= 6; purpose++ {
			s := asked(1+i%99, purpose, channels[i%len(channels)])
			plain, secret, ok := mint.Mint(nil, s, draw, int64(i))
			what := fmt.Sprintf("Mint(%+v, %q)", s, draw)
			wantTruth(t, what, ok && mint.Right(secret), true)
			wantTruth(t, what+": "+plain, token.IsCode(plain), purpose == api.Code)
			wantTruth(t, what+": "+plain, token.IsToken(plain), purpose != api.Code)
			for _, typed := range spellings(plain) {
				wantString(t, what+" typed "+typed, mint.Digest(nil, purpose, typed), secret.Digest)
			}
			wantTruth(t, what+" for another purpose", mint.Digest(nil, purpose%6+1, plain) == secret.Digest, false)
			wantTruth(t, what+" typed wrongly", mint.Digest(nil, purpose, plain[1:]) == secret.Digest, false)
		}
	}
}

func TestMintByTheModel(t *testing.T) {
	source := rand.New(rand.NewSource(32))
	pick := func(odds, even []string) string {
		if source.Intn(8) == 0 {
			return odds[source.Intn(len(odds))]
		}
		return even[source.Intn(len(even))]
	}
	for range 20000 {
		s := asked(source.Intn(110)-4, source.Intn(8), pick(noChannels, channels))
		draw := make([]byte, 10+source.Intn(40)/38)
		source.Read(draw)
		now := maxTime*int64(source.Intn(2)) + source.Int63n(5000) - 2500
		_, ok := modelPlain(s.Purpose, string(draw))
		if ok && s.Account >= 1 && s.Account <= 99 && address.Kind(s.Channel) != 0 && now >= 0 && now <= maxTime {
			wantMinted(t, s, string(draw), now)
		} else {
			wantRefused(t, s, string(draw), now)
		}
	}
}

// R4: equal calls return equal results, and what was returned earlier stays as it was.
func TestEqualCalls(t *testing.T) {
	s := asked(3, api.Code, "+12345678")
	s.Digest, s.Expires, s.Tries = "kept", -5, 77
	plain, secret, _ := mint.Mint(nil, s, "0123456789", 5)
	for _, draw := range draws(20) {
		mint.Mint(nil, s, draw, 9)
		mint.Plain(api.Code, draw)
		again, same, ok := mint.Mint(nil, s, "0123456789", 5)
		wantTruth(t, "equal calls", ok && again == plain && same == secret, true)
	}
}
