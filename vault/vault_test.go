package vault_test

import (
	"crypto/sha256"
	"encoding/binary"
	"fmt"
	"math"
	"math/rand"
	"slices"
	"strings"
	"testing"

	"homecoming/api"
	"homecoming/mint"
	"homecoming/sha"
	"homecoming/token"
	"homecoming/vault"
)

// maxTime is the last time there is, as the document has it.
const maxTime = int64(1) << 40

// right is the plain text of all secrets that the tests make without mint.
const right = "orsw4idcpf2gk4zo"

// phone and mail are channels.
const (
	phone = "+12345678"
	mail  = "ann@example.org"
)

// times are those at which a secret is looked at, some of them none that there may be.
var times = []int64{
	math.MinInt64, math.MinInt64 + 1, -maxTime, -101, -100, -1, 0, 1, 98, 99, 100, 101, 1 << 32, maxTime - 1, maxTime, maxTime + 1, math.MaxInt64 - 1, math.MaxInt64,
}

// digestOf is the digest of a plain text without anything that Clean would change, by the document's words and the library.
func digestOf(purpose int, plain string) string {
	sum := sha256.Sum256([]byte(string([]byte{byte(purpose)}) + plain))
	return string(sum[:])
}

// pending is a valid secret till 100 with three tries, if there is such a key.
func pending(account, purpose int, channel string) api.Secret {
	return api.Secret{Digest: digestOf(purpose, right), Account: account, Purpose: purpose, Channel: channel, Expires: 100, Tries: 3}
}

// marked is s with a digest of its own.
func marked(s api.Secret, mark int) api.Secret {
	s.Digest = digestOf(mark, "mark")
	return s
}

// rows is n valid secrets with different keys: next to each other are some that differ in the purpose, the channel or the account alone.
func rows(n int) []api.Secret {
	l := make([]api.Secret, 0, n)
	for i := range n {
		l = append(l, pending(1+i/12, 1+i%6, []string{mail, phone}[i/6%2]))
	}
	return l
}

// attempt is one with the key of s.
func attempt(s api.Secret, plain string) api.Attempt {
	return api.Attempt{Account: s.Account, Purpose: s.Purpose, Channel: s.Channel, Plain: plain}
}

// wrongSecrets is secrets that are not valid, each for one reason alone.
func wrongSecrets() []api.Secret {
	var l []api.Secret
	wrong := func(change func(s *api.Secret)) {
		s := pending(1, api.Verify, mail)
		change(&s)
		l = append(l, s)
	}
	for _, digest := range []string{"", "d", strings.Repeat("d", 31), strings.Repeat("d", 33), strings.Repeat("d", 1000)} {
		wrong(func(s *api.Secret) { s.Digest = digest })
	}
	for _, account := range []int{0, 100, 257, 1<<32 + 1, -1, math.MaxInt, math.MinInt} {
		wrong(func(s *api.Secret) { s.Account = account })
	}
	for _, purpose := range []int{0, 7, 257, -1, math.MaxInt, math.MinInt} {
		wrong(func(s *api.Secret) { s.Purpose = purpose })
	}
	for _, channel := range []string{"", "here", "Ann@example.org", "12345678", strings.Repeat("a", 36) + mail} {
		wrong(func(s *api.Secret) { s.Channel = channel })
	}
	for _, expires := range []int64{-1, maxTime + 1, math.MinInt64, math.MaxInt64} {
		wrong(func(s *api.Secret) { s.Expires = expires })
	}
	for _, tries := range []int{0, 6, -1, math.MaxInt, math.MinInt} {
		wrong(func(s *api.Secret) { s.Tries = tries })
	}
	code := pending(1, api.Code, phone)
	code.Tries = 4
	return append(l, code, api.Secret{})
}

// lend is a copy of l with room behind it, and a function that asks that nothing of it was changed, and that the list that was returned has none of its room.
func lend(t *testing.T, what string, l []api.Secret) ([]api.Secret, func(returned []api.Secret)) {
	t.Helper()
	all := append(slices.Clone(l), marked(api.Secret{}, 1), marked(api.Secret{}, 2), marked(api.Secret{}, 3))
	before := slices.Clone(all)
	lent := all[:len(l)]
	if l == nil {
		lent = nil
	}
	return lent, func(returned []api.Secret) {
		t.Helper()
		if !slices.Equal(all, before) {
			t.Errorf("%s modified its list: %+v, was %+v", what, all, before)
		}
		for i := range returned {
			returned[i] = marked(api.Secret{Account: i}, 4)
		}
		if _ = append(returned, marked(api.Secret{}, 5)); !slices.Equal(all, before) {
			t.Errorf("%s returned a part of its list", what)
		}
	}
}

func wantNumber(t *testing.T, what string, got, want int) {
	t.Helper()
	if got != want {
		t.Errorf("%s: %d, want %d", what, got, want)
	}
}

func wantTruth(t *testing.T, what string, got, want bool) {
	t.Helper()
	if got != want {
		t.Errorf("%s: %v, want %v", what, got, want)
	}
}

func wantList(t *testing.T, what string, got, want []api.Secret) {
	t.Helper()
	if !slices.Equal(got, want) {
		t.Errorf("%s: %+v, want %+v", what, got, want)
	}
}

func wantSecret(t *testing.T, what string, got, want api.Secret) {
	t.Helper()
	if got != want {
		t.Errorf("%s: %+v, want %+v", what, got, want)
	}
}

func wantCheck(t *testing.T, what string, l []api.Secret, want bool) {
	t.Helper()
	what = "Check of " + what
	lent, same := lend(t, what, l)
	wantTruth(t, what, vault.Check(lent), want)
	same(nil)
}

func wantPut(t *testing.T, l []api.Secret, s api.Secret, want []api.Secret, code api.Errno) {
	t.Helper()
	what := fmt.Sprintf("Put(%d secrets, %+v)", len(l), s)
	lent, same := lend(t, what, l)
	got, err := vault.Put(lent, s)
	wantNumber(t, what, int(err), int(code))
	wantList(t, what, got, want)
	same(got)
}

func wantFind(t *testing.T, l []api.Secret, account, purpose int, channel string, want api.Secret, ok bool) {
	t.Helper()
	what := fmt.Sprintf("Find(%d secrets, %d, %d, %q)", len(l), account, purpose, channel)
	lent, same := lend(t, what, l)
	got, is := vault.Find(lent, account, purpose, channel)
	wantTruth(t, what, is, ok)
	wantSecret(t, what, got, want)
	same(nil)
}

func wantDrop(t *testing.T, l []api.Secret, account, purpose int, want []api.Secret) {
	t.Helper()
	what := fmt.Sprintf("Drop(%d secrets, %d, %d)", len(l), account, purpose)
	lent, same := lend(t, what, l)
	got := vault.Drop(lent, account, purpose)
	wantList(t, what, got, want)
	same(got)
}

func wantSweep(t *testing.T, l []api.Secret, now int64, want []api.Secret) {
	t.Helper()
	what := fmt.Sprintf("Sweep(%d secrets, %d)", len(l), now)
	lent, same := lend(t, what, l)
	got := vault.Sweep(lent, now)
	wantList(t, what, got, want)
	same(got)
}

func wantOf(t *testing.T, l []api.Secret, account, want int) {
	t.Helper()
	what := fmt.Sprintf("Of(%d secrets, %d)", len(l), account)
	lent, same := lend(t, what, l)
	wantNumber(t, what, vault.Of(lent, account), want)
	same(nil)
}

func wantLive(t *testing.T, l []api.Secret, account, purpose int, channel string, now int64, want int) {
	t.Helper()
	what := fmt.Sprintf("Live(%d secrets, %d, %d, %q, %d)", len(l), account, purpose, channel, now)
	lent, same := lend(t, what, l)
	wantNumber(t, what, vault.Live(lent, account, purpose, channel, now), want)
	same(nil)
}

// wantPresent asks that Present returned what it should, with and without a meter, and that one digest was counted.
func wantPresent(t *testing.T, l []api.Secret, a api.Attempt, now int64, want []api.Secret, secret api.Secret, code api.Errno) {
	t.Helper()
	for _, m := range []*sha.Meter{nil, new(sha.Meter)} {
		what := fmt.Sprintf("Present(%d secrets, %.200q, %d)", len(l), fmt.Sprint(a), now)
		lent, same := lend(t, what, l)
		got, s, err := vault.Present(m, lent, a, now)
		wantNumber(t, what, int(err), int(code))
		wantSecret(t, what, s, secret)
		wantList(t, what, got, want)
		if m != nil {
			wantNumber(t, what+" counted", m.Count(), 1)
		}
		same(got)
	}
}

// at is l with others in place of the secret at i.
func at(l []api.Secret, i int, others ...api.Secret) []api.Secret {
	return append(append(slices.Clone(l[:i]), others...), l[i+1:]...)
}

// P11.1: valid lists.

func TestCheckOfSizes(t *testing.T) {
	wantCheck(t, "a nil list", nil, true)
	for n := range 100 {
		wantCheck(t, fmt.Sprint(n, " secrets"), rows(n), n <= 40)
	}
	wantCheck(t, "3000 secrets", slices.Repeat(rows(100), 30), false)
}

func TestCheckOfKeysThatAreThereTwice(t *testing.T) {
	for _, n := range []int{2, 3, 12, 39, 40} {
		for i := range n {
			for j := range i {
				l := rows(n)
				l[i] = l[j]
				wantCheck(t, fmt.Sprint(n, " secrets, equal at ", j, " and ", i), l, false)
				l[i] = marked(l[i], 9)
				l[i].Expires, l[i].Tries = 7, 1
				wantCheck(t, fmt.Sprint(n, " secrets, with one key at ", j, " and ", i), l, false)
			}
		}
	}
}

func TestCheckOfKeysThatDifferInOneField(t *testing.T) {
	s := pending(11, api.Verify, mail)
	for _, x := range []api.Secret{pending(12, api.Verify, mail), pending(1, api.Verify, mail), pending(11, api.Login, mail), pending(11, api.Verify, phone), pending(11, api.Verify, "ann@example.or")} {
		wantCheck(t, "two secrets", []api.Secret{s, x}, true)
		wantCheck(t, "three secrets", []api.Secret{s, x, s}, false)
	}
	// Digests, times and tries are no part of a key.
	l := rows(40)
	for i := range l {
		wantTruth(t, "digests are alike", l[i].Digest == l[i%6].Digest && l[i].Expires == l[0].Expires && l[i].Tries == l[0].Tries, true)
	}
	wantCheck(t, "secrets that are alike but for their keys", l, true)
}

func TestCheckOfSecretsThatAreNotValid(t *testing.T) {
	for _, wrong := range wrongSecrets() {
		wantCheck(t, fmt.Sprintf("%+v", wrong), []api.Secret{wrong}, false)
		for _, n := range []int{2, 40} {
			for i := range n {
				l := rows(n + 6)[6:]
				wantCheck(t, "a valid list", l, true)
				l[i] = wrong
				wantCheck(t, fmt.Sprintf("%d secrets with %+v at %d", n, wrong, i), l, false)
			}
		}
	}
}

func TestCheckOfEdgesOfSecrets(t *testing.T) {
	for _, tries := range []int{1, 2, 3, 4, 5, 6} {
		for purpose := 1; purpose <= 6; purpose++ {
			s := pending(99, purpose, phone)
			s.Tries, s.Expires = tries, maxTime
			wantCheck(t, fmt.Sprintf("%+v", s), []api.Secret{s}, tries <= 3 || tries <= 5 && purpose != api.Code)
		}
	}
}

// P11.1: Put.

func TestPutOfSecretsThatAreNotValid(t *testing.T) {
	for _, wrong := range wrongSecrets() {
		for _, n := range []int{0, 1, 2, 39, 40, 41, 60} {
			// The first secret of the list has the key of some of them: that is no matter.
			wantPut(t, rows(n), wrong, rows(n), api.ErrArg)
			// A secret that is not valid is not put in place of itself, either.
			wantPut(t, append(rows(n), wrong), wrong, append(rows(n), wrong), api.ErrArg)
		}
		wantPut(t, nil, wrong, nil, api.ErrArg)
	}
}

func TestPutOfKeysThatAreNotThere(t *testing.T) {
	s := pending(99, api.Vouch, mail)
	wantPut(t, nil, s, []api.Secret{s}, api.OK)
	wantPut(t, []api.Secret{}, s, []api.Secret{s}, api.OK)
	for n := range 60 {
		if n < 40 {
			wantPut(t, rows(n), s, append(rows(n), s), api.OK)
		} else {
			wantPut(t, rows(n), s, rows(n), api.ErrFull)
		}
	}
	wantPut(t, slices.Repeat(rows(100), 3), s, slices.Repeat(rows(100), 3), api.ErrFull)
}

func TestPutOfKeysThatDifferInOneField(t *testing.T) {
	s := pending(11, api.Verify, mail)
	for _, x := range []api.Secret{pending(12, api.Verify, mail), pending(1, api.Verify, mail), pending(11, api.Change, mail), pending(11, api.Verify, phone), pending(11, api.Verify, "ann@example.or")} {
		wantPut(t, []api.Secret{s}, x, []api.Secret{s, x}, api.OK)
		wantPut(t, []api.Secret{x}, s, []api.Secret{x, s}, api.OK)
		wantPut(t, []api.Secret{x, s}, marked(s, 9), []api.Secret{x, marked(s, 9)}, api.OK)
	}
}

func TestPutInPlaceOfAnotherOne(t *testing.T) {
	for _, n := range []int{1, 2, 13, 39, 40, 41, 60} {
		for i := range n {
			l := rows(n)
			s := marked(l[i], 9)
			s.Expires, s.Tries = 7, 1
			wantPut(t, l, s, at(l, i, s), api.OK)
			wantPut(t, l, l[i], l, api.OK)
		}
	}
}

// Of two secrets with one key the first one is replaced, in a list of any size.
func TestPutInPlaceOfTheFirstOne(t *testing.T) {
	for _, n := range []int{3, 39, 40, 41, 60} {
		for _, i := range []int{0, 1, n - 2} {
			l := rows(n)
			l[n-1] = marked(l[i], 8)
			s := marked(l[i], 9)
			wantPut(t, l, s, at(l, i, s), api.OK)
		}
	}
}

// What is replaced need not be valid, as only what is put must be.
func TestPutIntoListsThatAreNotValid(t *testing.T) {
	s := pending(1, api.Verify, mail)
	for _, wrong := range wrongSecrets() {
		want := []api.Secret{wrong, s}
		if wrong.Account == s.Account && wrong.Purpose == s.Purpose && wrong.Channel == s.Channel {
			want = []api.Secret{s}
		}
		wantPut(t, []api.Secret{wrong}, s, want, api.OK)
		other := pending(50, api.Vouch, phone)
		wantPut(t, []api.Secret{wrong, wrong}, other, []api.Secret{wrong, wrong, other}, api.OK)
	}
}

// P11.1: Find.

func TestFind(t *testing.T) {
	for _, n := range []int{1, 13, 40, 41, 100} {
		l := rows(n)
		for i := range l {
			l[i] = marked(l[i], i)
			l[i].Tries = 1 + i%3
		}
		for _, s := range l {
			wantFind(t, l, s.Account, s.Purpose, s.Channel, s, true)
		}
	}
}

func TestFindOfWhatIsNotThere(t *testing.T) {
	s := pending(11, api.Verify, mail)
	l := []api.Secret{pending(50, api.Vouch, phone), s}
	for _, account := range []int{0, 1, 10, 12, 50, 99, 111, -11, 11 + 256, 11 + 1<<32, math.MinInt, math.MaxInt} {
		wantFind(t, l, account, s.Purpose, s.Channel, api.Secret{}, false)
	}
	for _, purpose := range []int{0, 2, 3, 4, 5, 6, 7, -1, 257, 1<<32 + 1, math.MinInt, math.MaxInt} {
		wantFind(t, l, s.Account, purpose, s.Channel, api.Secret{}, false)
	}
	for _, channel := range []string{"", phone, "Ann@example.org", " " + mail, mail + "\x00", mail[1:], mail[:len(mail)-1], mail + mail} {
		wantFind(t, l, s.Account, s.Purpose, channel, api.Secret{}, false)
	}
	wantFind(t, nil, s.Account, s.Purpose, s.Channel, api.Secret{}, false)
	wantFind(t, []api.Secret{}, 0, 0, "", api.Secret{}, false)
}

func TestFindOfTheFirstOne(t *testing.T) {
	s := pending(1, api.Verify, mail)
	for _, wrong := range wrongSecrets() {
		wrong.Account, wrong.Purpose, wrong.Channel = s.Account, s.Purpose, s.Channel
		l := []api.Secret{pending(2, api.Verify, mail), wrong, s, s}
		wantFind(t, l, s.Account, s.Purpose, s.Channel, wrong, true)
		slices.Reverse(l)
		wantFind(t, l, s.Account, s.Purpose, s.Channel, s, true)
	}
}

// A secret that no list should have is found as any other.
func TestFindOfSecretsThatAreNotValid(t *testing.T) {
	for _, wrong := range wrongSecrets() {
		wantFind(t, []api.Secret{pending(50, api.Vouch, phone), wrong}, wrong.Account, wrong.Purpose, wrong.Channel, wrong, true)
	}
}

// P11.1: Drop.

func TestDropOfNothing(t *testing.T) {
	for _, x := range [][2]int{{0, 0}, {0, 1}, {1, 0}, {1, 1}, {-1, 0}, {math.MinInt, math.MinInt}, {math.MaxInt, 0}} {
		wantDrop(t, nil, x[0], x[1], nil)
		wantDrop(t, []api.Secret{}, x[0], x[1], nil)
	}
	for _, x := range [][2]int{{0, 0}, {0, 1}, {9, 0}, {9, 1}, {1, 7}, {1, -1}, {1, 257}, {257, 1}, {-1, 0}, {1<<32 + 1, 0}, {math.MinInt, 0}, {1, math.MinInt}, {1, math.MaxInt}} {
		wantDrop(t, rows(41), x[0], x[1], rows(41))
	}
}

func TestDropOfPurposes(t *testing.T) {
	for _, n := range []int{1, 12, 24, 40, 41, 100} {
		for account := 1; account <= 4; account++ {
			for purpose := 1; purpose <= 6; purpose++ {
				var want []api.Secret
				for _, s := range rows(n) {
					if s.Account != account || s.Purpose != purpose {
						want = append(want, s)
					}
				}
				wantDrop(t, rows(n), account, purpose, want)
			}
		}
	}
}

func TestDropOfAllPurposes(t *testing.T) {
	wantDrop(t, rows(12), 1, 0, nil)
	wantDrop(t, rows(24), 1, 0, rows(24)[12:])
	wantDrop(t, rows(24), 2, 0, rows(12))
	wantDrop(t, rows(36), 2, 0, slices.Concat(rows(12), rows(36)[24:]))
	wantDrop(t, rows(40), 4, 0, rows(36))
}

// All that have the account and the purpose are dropped, not the first one alone, be they valid or not.
func TestDropOfManyAndOfSecretsThatAreNotValid(t *testing.T) {
	a, b, c := pending(1, api.Reset, mail), pending(2, api.Reset, mail), pending(1, api.Login, mail)
	wantDrop(t, []api.Secret{a, a, b, a, c, b, a}, 1, api.Reset, []api.Secret{b, c, b})
	wantDrop(t, []api.Secret{a, a, b, a, c, b, a}, 1, 0, []api.Secret{b, b})
	none, odd := pending(1, 0, "here"), pending(0, -7, "")
	wantDrop(t, []api.Secret{none, odd, a}, 1, 0, []api.Secret{odd})
	wantDrop(t, []api.Secret{none, odd, a}, 1, api.Reset, []api.Secret{none, odd})
	wantDrop(t, []api.Secret{none, odd, a}, 0, -7, []api.Secret{none, a})
	wantDrop(t, []api.Secret{none, odd, a}, 0, 0, []api.Secret{none, a})
	for _, wrong := range wrongSecrets() {
		wantDrop(t, []api.Secret{b, wrong, b, wrong}, wrong.Account, wrong.Purpose, []api.Secret{b, b})
	}
}

// P11.1: Sweep, and what is expired.

func TestSweepAtEachTime(t *testing.T) {
	for _, expires := range times {
		s := pending(1, api.Reset, mail)
		s.Expires = expires
		for _, now := range times {
			want := []api.Secret{s}
			if now >= expires {
				want = nil
			}
			wantSweep(t, []api.Secret{s}, now, want)
		}
	}
	for _, now := range times {
		wantSweep(t, nil, now, nil)
		wantSweep(t, []api.Secret{}, now, nil)
	}
}

func TestSweepKeepsTheOrder(t *testing.T) {
	for _, n := range []int{1, 12, 40, 41, 100} {
		l := rows(n)
		for i := range l {
			l[i].Expires = int64(i*37%n + 10)
		}
		for now := int64(8); now <= int64(n)+12; now++ {
			var want []api.Secret
			for _, s := range l {
				if s.Expires >= now+1 {
					want = append(want, s)
				}
			}
			wantSweep(t, l, now, want)
			wantNumber(t, fmt.Sprint("secrets at ", now), len(want), min(n, max(0, n+9-int(now))))
		}
	}
}

// Those of one key go each for itself.
func TestSweepOfSecretsThatAreNotValid(t *testing.T) {
	a, b := pending(1, api.Reset, mail), pending(1, api.Reset, mail)
	a.Expires, b.Expires = 10, 11
	wantSweep(t, []api.Secret{a, b, a, b}, 10, []api.Secret{b, b})
	for _, wrong := range wrongSecrets() {
		for _, now := range times {
			want := []api.Secret{wrong, wrong}
			if now >= wrong.Expires {
				want = nil
			}
			wantSweep(t, []api.Secret{wrong, wrong}, now, want)
		}
	}
}

// P11.1: Of.

func TestOf(t *testing.T) {
	for _, account := range []int{0, 1, -1, math.MinInt, math.MaxInt} {
		wantOf(t, nil, account, 0)
		wantOf(t, []api.Secret{}, account, 0)
	}
	for n := range 60 {
		for account := 1; account <= 5; account++ {
			wantOf(t, rows(n), account, min(12, max(0, n-12*(account-1))))
		}
		for _, account := range []int{0, 6, 99, 257, -1, 1<<32 + 1, math.MinInt, math.MaxInt} {
			wantOf(t, rows(n), account, 0)
		}
	}
}

// Each one counts: of one key, expired, or not valid.
func TestOfSecretsThatAreNotValid(t *testing.T) {
	s := pending(7, api.Reset, mail)
	wantOf(t, slices.Repeat([]api.Secret{s, pending(8, api.Reset, mail)}, 50), 7, 50)
	for _, wrong := range wrongSecrets() {
		wantOf(t, []api.Secret{s, wrong, wrong, s, wrong}, wrong.Account, 3)
		wantOf(t, []api.Secret{s, wrong, wrong, s, wrong}, 7, 2)
	}
}

// P11.1: Live.

func TestLiveAtEachTime(t *testing.T) {
	for _, expires := range times {
		for _, now := range times {
			for tries := 1; tries <= 5; tries++ {
				s := pending(1, api.Reset, mail)
				s.Expires, s.Tries = expires, tries
				want := tries
				if now >= expires {
					want = 0
				}
				wantLive(t, []api.Secret{pending(2, api.Reset, mail), s}, 1, api.Reset, mail, now, want)
			}
		}
	}
}

func TestLiveOfWhatIsNotThere(t *testing.T) {
	l := []api.Secret{pending(11, api.Verify, mail)}
	for _, now := range []int64{math.MinInt64, 0, 50} {
		wantLive(t, l, 11, api.Verify, mail, now, 3)
		wantLive(t, l, 12, api.Verify, mail, now, 0)
		wantLive(t, l, 1, api.Verify, mail, now, 0)
		wantLive(t, l, 11, api.Login, mail, now, 0)
		wantLive(t, l, 11, 0, mail, now, 0)
		wantLive(t, l, 11, api.Verify, phone, now, 0)
		wantLive(t, l, 11, api.Verify, "", now, 0)
		wantLive(t, l, 11, api.Verify, "ANN@example.org", now, 0)
		wantLive(t, nil, 11, api.Verify, mail, now, 0)
		wantLive(t, []api.Secret{}, 0, 0, "", now, 0)
	}
}

// If the first one is expired, no other one of its key is looked at.
func TestLiveOfTheFirstOne(t *testing.T) {
	a, b := pending(1, api.Reset, mail), pending(1, api.Reset, mail)
	a.Expires, a.Tries = 10, 2
	b.Expires, b.Tries = 20, 5
	for now, want := range map[int64][2]int{9: {2, 5}, 10: {0, 5}, 19: {0, 5}, 20: {0, 0}} {
		wantLive(t, []api.Secret{a, b}, 1, api.Reset, mail, now, want[0])
		wantLive(t, []api.Secret{b, a}, 1, api.Reset, mail, now, want[1])
	}
}

// Tries are told as they are, even where no secret has so many.
func TestLiveOfSecretsThatAreNotValid(t *testing.T) {
	for _, tries := range []int{0, -1, 6, 1000, math.MinInt, math.MaxInt} {
		s := pending(1, api.Code, mail)
		s.Tries = tries
		wantLive(t, []api.Secret{s}, 1, api.Code, mail, 99, tries)
		wantLive(t, []api.Secret{s}, 1, api.Code, mail, 100, 0)
	}
	for _, wrong := range wrongSecrets() {
		if wrong.Expires > 50 {
			wantLive(t, []api.Secret{wrong}, wrong.Account, wrong.Purpose, wrong.Channel, 50, wrong.Tries)
		}
	}
}

// P11.2: presentation.

// The document's example.
func TestPresentExample(t *testing.T) {
	plain, s, _ := mint.Mint(nil, api.Secret{Account: 1, Purpose: api.Code, Channel: phone}, "0123456789", 0)
	l, err := vault.Put(nil, s)
	wantNumber(t, "Put", int(err), 0)
	wantNumber(t, "tries", s.Tries, 3)
	for i, x := range []struct {
		plain string
		code  api.Errno
		left  int
	}{{"wrong", api.ErrWrong, 2}, {"wrong", api.ErrWrong, 1}, {"wrong", api.ErrWrong, 0}, {plain, api.ErrNone, 0}} {
		l, s, err = vault.Present(nil, l, attempt(api.Secret{Account: 1, Purpose: api.Code, Channel: phone}, x.plain), 1)
		what := fmt.Sprint("attempt ", i)
		wantNumber(t, what, int(err), int(x.code))
		wantSecret(t, what, s, api.Secret{})
		wantNumber(t, what+": left", vault.Live(l, 1, api.Code, phone, 1), x.left)
	}
	wantList(t, "what is left", l, nil)
}

func TestPresentOfNoSecret(t *testing.T) {
	l := rows(13)
	s := l[12] // the first one of its account
	for _, a := range []api.Attempt{
		{}, {Account: 3, Purpose: s.Purpose, Channel: s.Channel}, {Account: 2, Purpose: api.Login, Channel: s.Channel}, {Account: 2, Purpose: s.Purpose, Channel: phone},
		{Account: 2, Purpose: 0, Channel: s.Channel}, {Account: 2, Purpose: s.Purpose + 256, Channel: s.Channel}, {Account: 258, Purpose: s.Purpose, Channel: s.Channel},
		{Account: 2, Purpose: s.Purpose, Channel: "ANN@example.org"}, {Account: 2, Purpose: s.Purpose, Channel: mail + " "}, {Account: 2, Purpose: s.Purpose, Channel: ""},
		{Account: math.MinInt, Purpose: math.MinInt, Channel: strings.Repeat("a", 1000)}, {Account: math.MaxInt, Purpose: math.MaxInt},
	} {
		for _, a.Plain = range []string{right, "wrong", "", strings.Repeat("a", 5000)} {
			for _, now := range times {
				wantPresent(t, l, a, now, l, api.Secret{}, api.ErrNone)
			}
			wantPresent(t, nil, a, 5, nil, api.Secret{}, api.ErrNone)
			wantPresent(t, []api.Secret{}, a, 5, nil, api.Secret{}, api.ErrNone)
		}
	}
}

// Whether the plain text is right is not told behind the secret's time.
func TestPresentAtEachTime(t *testing.T) {
	others := rows(3)
	for _, expires := range times {
		for _, now := range times {
			for _, tries := range []int{1, 2, 3} {
				s := pending(50, api.Change, phone)
				s.Expires, s.Tries = expires, tries
				l := []api.Secret{others[0], others[1], s, others[2]}
				less := s
				less.Tries--
				switch {
				case now >= expires:
					wantPresent(t, l, attempt(s, right), now, others, api.Secret{}, api.ErrLate)
					wantPresent(t, l, attempt(s, "wrong"), now, others, api.Secret{}, api.ErrLate)
				case tries == 1:
					wantPresent(t, l, attempt(s, right), now, others, s, api.OK)
					wantPresent(t, l, attempt(s, "wrong"), now, others, api.Secret{}, api.ErrWrong)
				default:
					wantPresent(t, l, attempt(s, right), now, others, s, api.OK)
					wantPresent(t, l, attempt(s, "wrong"), now, at(l, 2, less), api.Secret{}, api.ErrWrong)
				}
			}
		}
	}
}

func TestPresentOfEachSecret(t *testing.T) {
	for _, n := range []int{1, 12, 40, 41, 60} {
		l := rows(n)
		for i, s := range l {
			less := s
			less.Tries = 2
			wantPresent(t, l, attempt(s, right), 99, at(l, i), s, api.OK)
			wantPresent(t, l, attempt(s, "wrong"), 99, at(l, i, less), api.Secret{}, api.ErrWrong)
			wantPresent(t, l, attempt(s, right), 100, at(l, i), api.Secret{}, api.ErrLate)
		}
	}
}

func TestPresentHoweverItWasTyped(t *testing.T) {
	s := pending(3, api.Reset, mail)
	code := pending(3, api.Code, phone)
	code.Digest = digestOf(api.Code, "065538")
	l := []api.Secret{s, code}
	for _, typed := range []string{right, strings.ToUpper(right), token.Group(right, 4), " " + token.Group(strings.ToUpper(right), 3) + "\t", "ORSW 4idc--pf2g\tK4Zo -"} {
		wantPresent(t, l, attempt(s, typed), 5, []api.Secret{code}, s, api.OK)
	}
	for _, typed := range []string{"065538", "065 538", "065-538", "\t0-6 5-5 3-8-"} {
		wantPresent(t, l, attempt(code, typed), 5, []api.Secret{s}, code, api.OK)
	}
	less := s
	less.Tries = 2
	for _, wrong := range []string{
		"", " ", "-", "wrong", right[1:], right[:15], right + "a", "0" + right[1:], right + "\n", right + "\x00", right + right, "orsw_4idc_pf2g_k4zo", "065538", s.Digest, "ORSW4IDCPF2GK4Z0",
	} {
		wantPresent(t, l, attempt(s, wrong), 5, []api.Secret{less, code}, api.Secret{}, api.ErrWrong)
	}
}

// A plain text of another secret, be it of another purpose, is wrong.
func TestPresentOfAnotherSecret(t *testing.T) {
	var l []api.Secret
	var plains []string
	for purpose := 1; purpose <= 6; purpose++ {
		plain, s, _ := mint.Mint(nil, api.Secret{Account: 1, Purpose: purpose, Channel: mail}, "0123456789", 0)
		if purpose%2 == 0 {
			plain, s, _ = mint.Mint(nil, api.Secret{Account: 1, Purpose: purpose, Channel: mail}, "9876543210", 0)
		}
		l, plains = append(l, s), append(plains, plain)
	}
	for i, s := range l {
		for j, plain := range plains {
			less := s
			less.Tries--
			switch {
			case i == j || s.Purpose != api.Code && l[j].Purpose != api.Code && i%2 == j%2:
				wantPresent(t, l, attempt(s, plain), 5, at(l, i), s, api.OK)
			default:
				wantPresent(t, l, attempt(s, plain), 5, at(l, i, less), api.Secret{}, api.ErrWrong)
			}
		}
		// The digest of the same plain text for another purpose is not that of this one.
		moved := s
		moved.Digest = digestOf(s.Purpose%6+1, plains[i])
		less := moved
		less.Tries--
		wantPresent(t, at(l, i, moved), attempt(s, plains[i]), 5, at(l, i, less), api.Secret{}, api.ErrWrong)
	}
}

func TestPresentDownToTheLastTry(t *testing.T) {
	for tries := 1; tries <= 5; tries++ {
		s := pending(3, api.Vouch, mail)
		s.Tries = tries
		others := rows(4)
		l := []api.Secret{others[0], s, others[1], others[2], others[3]}
		for left := tries - 1; left > 0; left-- {
			less := s
			less.Tries = left
			wantPresent(t, l, attempt(s, "wrong"), 9, at(l, 1, less), api.Secret{}, api.ErrWrong)
			wantPresent(t, l, attempt(s, right), 9, others, l[1], api.OK)
			l[1] = less
		}
		wantPresent(t, l, attempt(s, right), 9, others, l[1], api.OK)
		wantPresent(t, l, attempt(s, "wrong"), 9, others, api.Secret{}, api.ErrWrong)
		wantPresent(t, others, attempt(s, right), 9, others, api.Secret{}, api.ErrNone)
	}
}

// A secret without tries is there till it was presented once more, and right if it is.
func TestPresentOfSecretsWithTriesThatAreNotValid(t *testing.T) {
	for _, tries := range []int{1, 0, -1, -2, -1000, math.MinInt + 1, math.MinInt} {
		s := pending(3, api.Login, mail)
		s.Tries = tries
		wantPresent(t, []api.Secret{s}, attempt(s, "wrong"), 9, nil, api.Secret{}, api.ErrWrong)
		wantPresent(t, []api.Secret{s}, attempt(s, right), 9, nil, s, api.OK)
		wantPresent(t, []api.Secret{s}, attempt(s, right), 100, nil, api.Secret{}, api.ErrLate)
	}
	for _, tries := range []int{2, 6, 1000, math.MaxInt} {
		s := pending(3, api.Login, mail)
		s.Tries = tries
		less := s
		less.Tries = tries - 1
		wantPresent(t, []api.Secret{s}, attempt(s, "wrong"), 9, []api.Secret{less}, api.Secret{}, api.ErrWrong)
		wantPresent(t, []api.Secret{s}, attempt(s, right), 9, nil, s, api.OK)
	}
}

// Secrets that are not valid are presented as any other; a digest that is none is never right.
func TestPresentOfSecretsThatAreNotValid(t *testing.T) {
	for _, wrong := range wrongSecrets() {
		wrong.Expires, wrong.Tries = 100, 2
		other := pending(50, api.Vouch, phone)
		less := wrong
		less.Tries = 1
		l := []api.Secret{other, wrong}
		wantPresent(t, l, attempt(wrong, "wrong"), 9, []api.Secret{other, less}, api.Secret{}, api.ErrWrong)
		if len(wrong.Digest) != 32 {
			wantPresent(t, l, attempt(wrong, right), 9, []api.Secret{other, less}, api.Secret{}, api.ErrWrong)
		} else {
			wrong.Digest = digestOf(wrong.Purpose, right)
			wantPresent(t, []api.Secret{other, wrong}, attempt(wrong, right), 9, []api.Secret{other}, wrong, api.OK)
		}
	}
	for n := range 32 {
		for _, digest := range []string{digestOf(2, right)[:n], digestOf(2, right)[n+1:], digestOf(2, right) + digestOf(2, right)[:n+1]} {
			s := pending(3, api.Login, mail)
			s.Digest, s.Tries = digest, 1
			wantPresent(t, []api.Secret{s}, attempt(s, right), 9, nil, api.Secret{}, api.ErrWrong)
		}
	}
}

// A digest is right only with all its bits.
func TestPresentOfDigestsThatDifferInOneBit(t *testing.T) {
	for i := range 32 {
		for bit := range 8 {
			s := pending(3, api.Login, mail)
			digest := []byte(s.Digest)
			digest[i] ^= 1 << bit
			s.Digest = string(digest)
			less := s
			less.Tries = 2
			wantPresent(t, []api.Secret{s}, attempt(s, right), 9, []api.Secret{less}, api.Secret{}, api.ErrWrong)
		}
	}
}

// Of two secrets with one key the first one alone is considered.
func TestPresentOfTheFirstOne(t *testing.T) {
	a := pending(3, api.Reset, mail)
	b := marked(a, 7)
	less := a
	less.Tries = 2
	bless := b
	bless.Tries = 2
	late := a
	late.Expires = 5
	c := pending(4, api.Reset, mail)
	wantPresent(t, []api.Secret{c, a, b, a}, attempt(a, right), 9, []api.Secret{c, b, a}, a, api.OK)
	wantPresent(t, []api.Secret{c, a, b, a}, attempt(a, "wrong"), 9, []api.Secret{c, less, b, a}, api.Secret{}, api.ErrWrong)
	wantPresent(t, []api.Secret{c, b, a, b}, attempt(a, right), 9, []api.Secret{c, bless, a, b}, api.Secret{}, api.ErrWrong)
	wantPresent(t, []api.Secret{late, a, c}, attempt(a, right), 9, []api.Secret{a, c}, api.Secret{}, api.ErrLate)
	wantPresent(t, []api.Secret{a, late, c}, attempt(a, right), 9, []api.Secret{late, c}, a, api.OK)
}

// One digest is computed for an attempt, whatever it finds.
func TestPresentCountsOneDigest(t *testing.T) {
	m := new(sha.Meter)
	n := 0
	for _, l := range [][]api.Secret{nil, rows(1), rows(40), rows(41), wrongSecrets()} {
		for _, a := range []api.Attempt{{}, attempt(rows(1)[0], right), attempt(rows(1)[0], "wrong"), attempt(rows(1)[0], strings.Repeat("-", 5000)), {Account: -1, Purpose: -1}} {
			for _, now := range times {
				vault.Present(m, l, a, now)
				n++
				wantNumber(t, "digests", m.Count(), n)
			}
		}
	}
}

// All calls by the document's words.

// same reports whether two secrets have one key.
func same(a, b api.Secret) bool {
	return a.Account == b.Account && a.Purpose == b.Purpose && a.Channel == b.Channel
}

// modelCheck is Check by the document's words.
func modelCheck(l []api.Secret) bool {
	ok := len(l) <= 40
	for i := range l {
		ok = ok && mint.Right(l[i])
		for j := range i {
			ok = ok && !same(l[i], l[j])
		}
	}
	return ok
}

// modelFind is the place of the first secret with the key of s, or that behind all.
func modelFind(l []api.Secret, s api.Secret) int {
	i := 0
	for i < len(l) && !same(l[i], s) {
		i++
	}
	return i
}

// modelPut is Put by the document's words.
func modelPut(l []api.Secret, s api.Secret) ([]api.Secret, api.Errno) {
	i := modelFind(l, s)
	switch {
	case !mint.Right(s):
		return l, 1
	case i < len(l):
		return at(l, i, s), 0
	case len(l) >= 40:
		return l, 15
	}
	return append(slices.Clone(l), s), 0
}

// modelPresent is Present by the document's words.
func modelPresent(l []api.Secret, a api.Attempt, now int64) ([]api.Secret, api.Secret, api.Errno) {
	i := modelFind(l, api.Secret{Account: a.Account, Purpose: a.Purpose, Channel: a.Channel})
	if i == len(l) {
		return l, api.Secret{}, 12
	}
	s := l[i]
	if !(s.Expires > now) {
		return at(l, i), api.Secret{}, 19
	}
	if s.Digest == digestOf(a.Purpose, a.Plain) {
		return at(l, i), s, 0
	}
	if s.Tries <= 1 {
		return at(l, i), api.Secret{}, 21
	}
	s.Tries--
	return at(l, i, s), api.Secret{}, 21
}

// modelKeep is those of l that keep says.
func modelKeep(l []api.Secret, keep func(s api.Secret) bool) []api.Secret {
	var kept []api.Secret
	for _, s := range l {
		if keep(s) {
			kept = append(kept, s)
		}
	}
	return kept
}

// one is one of some.
func one[T any](source *rand.Rand, some ...T) T {
	return some[source.Intn(len(some))]
}

// anySecret is one of not many keys, mostly one that is not valid.
func anySecret(source *rand.Rand) api.Secret {
	purpose := one(source, 1, 1, 4, 6, 0, 7, 257, -255)
	return api.Secret{
		Digest:  one(source, digestOf(purpose, right), digestOf(purpose, "other"), digestOf(purpose, ""), "", strings.Repeat("d", 33)),
		Account: one(source, 1, 1, 2, 99, 0, -1, 100, math.MinInt), Purpose: purpose, Channel: one(source, mail, mail, phone, "", "here"),
		Expires: one(source, 50, 51, 100, maxTime, maxTime+1, -1, math.MinInt64, math.MaxInt64), Tries: one(source, 1, 2, 3, 5, 6, 0, -1, math.MinInt, math.MaxInt),
	}
}

// anyList is one of 0 to 60 secrets, some of them valid throughout.
func anyList(source *rand.Rand) []api.Secret {
	l := rows(source.Intn(44))
	if source.Intn(3) > 0 {
		for range source.Intn(16) {
			l = slices.Insert(l, source.Intn(len(l)+1), anySecret(source))
		}
	}
	return l
}

func TestAllByTheModel(t *testing.T) {
	source := rand.New(rand.NewSource(11))
	for range 20000 {
		l, s := anyList(source), anySecret(source)
		if len(l) > 0 && source.Intn(2) == 0 {
			s = one(source, l...)
		}
		now := one(source, 49, 50, 51, 99, 100, -1, maxTime, math.MinInt64, math.MaxInt64)
		account, purpose, channel := s.Account, s.Purpose, s.Channel
		wantCheck(t, fmt.Sprintf("%+v", l), l, modelCheck(l))
		put, err := modelPut(l, s)
		wantPut(t, l, s, put, err)
		a := attempt(s, one(source, right, "other", "wrong", ""))
		left, used, code := modelPresent(l, a, now)
		wantPresent(t, l, a, now, left, used, code)
		wantSweep(t, l, now, modelKeep(l, func(x api.Secret) bool { return x.Expires > now }))
		wantDrop(t, l, account, 0, modelKeep(l, func(x api.Secret) bool { return x.Account != account }))
		if purpose != 0 {
			wantDrop(t, l, account, purpose, modelKeep(l, func(x api.Secret) bool { return x.Account != account || x.Purpose != purpose }))
		}
		wantOf(t, l, account, len(modelKeep(l, func(x api.Secret) bool { return x.Account == account })))
		if i := modelFind(l, s); i == len(l) {
			wantFind(t, l, account, purpose, channel, api.Secret{}, false)
			wantLive(t, l, account, purpose, channel, now, 0)
		} else {
			wantFind(t, l, account, purpose, channel, l[i], true)
			live := l[i].Tries
			if l[i].Expires <= now {
				live = 0
			}
			wantLive(t, l, account, purpose, channel, now, live)
		}
	}
}

// P11.3: consequences.

// Every row of eight attempts, for each number of tries: the right plain text is accepted once, and only ahead of as many wrong ones as there are tries.
func TestAllRowsOfAttempts(t *testing.T) {
	const length = 8
	for tries := 1; tries <= 5; tries++ {
		for row := range 1 << length {
			s := pending(3, api.Reset, mail)
			s.Tries = tries
			l := []api.Secret{pending(2, api.Reset, mail), s, pending(4, api.Reset, mail)}
			wrong, gone := 0, false
			for i := range length {
				want, a := api.ErrNone, attempt(s, "wrong")
				if row>>i&1 == 1 {
					a.Plain = right
				}
				switch {
				case gone:
				case a.Plain == right:
					want, gone = api.OK, true
				default:
					wrong++
					want, gone = api.ErrWrong, wrong == tries
				}
				var err api.Errno
				l, _, err = vault.Present(nil, l, a, 9)
				wantNumber(t, fmt.Sprintf("%d tries, row %08b, attempt %d", tries, row, i), int(err), int(want))
			}
			wantNumber(t, "secrets left", len(l), map[bool]int{true: 2, false: 3}[gone])
		}
	}
}

// history is what became of one secret that was created.
type history struct {
	plain        string
	secret       api.Secret
	wrong, taken int
}

// game is a vault in use, and the secrets that were ever put into it, by their digests.
type game struct {
	t      *testing.T
	source *rand.Rand
	l      []api.Secret
	now    int64
	all    []*history
	by     map[string]*history
}

// create puts a secret that no other one is like.
func (g *game) create() {
	draw := string(binary.BigEndian.AppendUint64(nil, uint64(len(g.all)))) + "zz"
	asked := api.Secret{Account: 1 + g.source.Intn(4), Purpose: 1 + g.source.Intn(6), Channel: one(g.source, mail, phone)}
	plain, s, _ := mint.Mint(nil, asked, draw, g.now)
	l, err := vault.Put(g.l, s)
	wantTruth(g.t, "Put", err == api.OK || err == api.ErrFull && len(g.l) == 40, true)
	if g.l = l; err == api.OK {
		h := &history{plain: plain, secret: s}
		g.all, g.by[s.Digest] = append(g.all, h), h
	}
}

// present presents what was created once, or something wrong in its place.
func (g *game) present() {
	h := one(g.source, g.all[max(0, len(g.all)-60):]...)
	a := attempt(h.secret, one(g.source, h.plain, token.Group(strings.ToUpper(h.plain), 4), "wrong", "wrong", one(g.source, g.all...).plain))
	was, there := vault.Find(g.l, a.Account, a.Purpose, a.Channel)
	l, s, err := vault.Present(nil, g.l, a, g.now)
	g.l = l
	switch {
	case err == api.OK:
		wantTruth(g.t, "the secret that was there", there && s == was, true)
		used := g.by[s.Digest]
		used.taken++
		wantTruth(g.t, "its plain text, in time", token.Clean(a.Plain) == used.plain && g.now < s.Expires, true)
	case err == api.ErrWrong && there:
		g.by[was.Digest].wrong++
	case err == api.ErrNone:
		wantTruth(g.t, "something there", there, false)
	default:
		wantTruth(g.t, fmt.Sprint("too late, not ", err), err == api.ErrLate && there && was.Expires <= g.now, true)
	}
}

// judge asks that no secret was accepted twice, or tried wrongly too often.
func (g *game) judge() {
	for _, h := range g.all {
		wantTruth(g.t, fmt.Sprintf("%+v was accepted %d times", h.secret, h.taken), h.taken <= 1, true)
		wantTruth(g.t, fmt.Sprintf("%+v was tried wrongly %d times", h.secret, h.wrong), h.wrong <= h.secret.Tries, true)
		wantTruth(g.t, fmt.Sprintf("%+v was accepted behind its last try", h.secret), h.taken == 1 && h.wrong == h.secret.Tries, false)
	}
}

func TestRowsOfCalls(t *testing.T) {
	accepted, exhausted := 0, 0
	for seed := range int64(60) {
		g := &game{t: t, source: rand.New(rand.NewSource(seed)), by: map[string]*history{}}
		g.create()
		for range 1500 {
			switch n := g.source.Intn(100); {
			case n < 25:
				g.create()
			case n < 92:
				g.present()
			case n < 94:
				g.l = vault.Drop(g.l, 1+g.source.Intn(4), g.source.Intn(7))
			case n < 96:
				g.l = vault.Sweep(g.l, g.now)
			default:
				g.now += g.source.Int63n(20)
			}
			wantTruth(t, "Check", vault.Check(g.l), true)
		}
		g.judge()
		for _, h := range g.all {
			accepted += h.taken
			if h.wrong == h.secret.Tries {
				exhausted++
			}
		}
	}
	// Otherwise the rows would show nothing.
	wantTruth(t, fmt.Sprint(accepted, " accepted"), accepted > 1000, true)
	wantTruth(t, fmt.Sprint(exhausted, " exhausted"), exhausted > 1000, true)
}

// What was accepted once is gone for each purpose, spelling and time.
func TestUsedSecretsStayUsed(t *testing.T) {
	for purpose := 1; purpose <= 6; purpose++ {
		plain, s, _ := mint.Mint(nil, api.Secret{Account: 1, Purpose: purpose, Channel: mail}, "ten bytes.", 0)
		l, _ := vault.Put(rows(30)[12:], s)
		l, used, err := vault.Present(nil, l, attempt(s, plain), 5)
		wantNumber(t, "Present", int(err), 0)
		wantSecret(t, "Present", used, s)
		for other := range 8 {
			a := attempt(s, plain)
			a.Purpose = other
			for _, a.Plain = range []string{plain, strings.ToUpper(plain), token.Group(plain, 2)} {
				for _, now := range times {
					wantPresent(t, l, a, now, l, api.Secret{}, api.ErrNone)
				}
			}
		}
	}
}

// R4: equal calls return equal results, and what was returned earlier stays as it was.
func TestEqualCalls(t *testing.T) {
	l := rows(20)
	put, _ := vault.Put(l, pending(99, api.Vouch, phone))
	left, s, code := vault.Present(nil, put, attempt(l[3], "wrong"), 5)
	first := slices.Concat(put, left, vault.Drop(put, 1, 0), vault.Sweep(put, 5))
	for range 20 {
		vault.Present(nil, left, attempt(l[3], right), 5)
		vault.Put(left, marked(l[4], 9))
		again, _ := vault.Put(l, pending(99, api.Vouch, phone))
		gone, same, err := vault.Present(nil, put, attempt(l[3], "wrong"), 5)
		wantList(t, "equal calls", slices.Concat(again, gone, vault.Drop(put, 1, 0), vault.Sweep(put, 5)), first)
		wantTruth(t, "equal calls", same == s && err == code, true)
	}
	wantList(t, "what was returned", slices.Concat(put, left), first[:len(put)+len(left)])
}
