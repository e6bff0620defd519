package bucket_test

import (
	"fmt"
	"math"
	"math/rand"
	"slices"
	"sort"
	"strings"
	"testing"

	"homecoming/api"
	"homecoming/bucket"
)

// maxTime is the last time there is, as the document has it.
const maxTime = int64(1) << 40

// wrongTimes are times that there are not.
var wrongTimes = []int64{math.MinInt64, math.MinInt64 + 1, -maxTime, -26, -25, -1, maxTime + 1, math.MaxInt64 - 25, math.MaxInt64 - 1, math.MaxInt64}

// behinds are numbers of ticks from a bucket's At to now, those below 0 among them.
var behinds = []int64{-1000, -100, -26, -25, -24, -1, 0, 1, 2, 23, 24, 25, 26, 49, 50, 51, 74, 75, 76, 99, 100, 101, 124, 125, 126, 1 << 31, 1 << 32, 25 << 32, 1<<32*25 + 25}

// keyOf is the key of a number: in the order of the numbers, up to 999.
func keyOf(i int) string {
	return fmt.Sprintf("key%03d", i)
}

// of is a bucket.
func of(key string, left int, at int64) api.Bucket {
	return api.Bucket{Key: key, Left: left, At: at}
}

// rows is n buckets with a key for each even number, with nothing left from At on.
func rows(n int, at int64) []api.Bucket {
	l := make([]api.Bucket, 0, n)
	for i := range n {
		l = append(l, api.Bucket{Key: keyOf(2 * i), At: at})
	}
	return l
}

// lend is a copy of l with room behind it, and a function that asks that nothing of it was changed, and that the list that was returned has none of its room.
func lend(t *testing.T, what string, l []api.Bucket) ([]api.Bucket, func(returned []api.Bucket)) {
	t.Helper()
	all := append(slices.Clone(l), of("x", 1, 1), of("y", 2, 2), of("z", 3, 3))
	before := slices.Clone(all)
	lent := all[:len(l)]
	if l == nil {
		lent = nil
	}
	return lent, func(returned []api.Bucket) {
		t.Helper()
		if !slices.Equal(all, before) {
			t.Errorf("%s modified its list: %+v, was %+v", what, all, before)
		}
		was := slices.Clone(returned)
		for i := range all {
			all[i] = api.Bucket{Key: "changed later", At: int64(i)}
		}
		if !slices.Equal(returned, was) {
			t.Errorf("%s returned a part of its list", what)
		}
		copy(all, before)
		for i := range returned {
			returned[i] = api.Bucket{Key: "changed", At: int64(i)}
		}
		if _ = append(returned, api.Bucket{Key: "more"}, api.Bucket{Key: "still more"}); !slices.Equal(all, before) {
			t.Errorf("%s returned a part of its list", what)
		}
	}
}

func wantNumber(t *testing.T, what string, got, want int64) {
	t.Helper()
	if got != want {
		t.Errorf("%s: %d, want %d", what, got, want)
	}
}

func wantTruth(t *testing.T, what string, got, want bool) {
	t.Helper()
	if got != want {
		t.Errorf("%s: %v, want %v", what, got, want)
	}
}

func wantList(t *testing.T, what string, got, want []api.Bucket) {
	t.Helper()
	if !slices.Equal(got, want) {
		t.Errorf("%s: %+v, want %+v", what, got, want)
	}
}

func wantCheck(t *testing.T, what string, l []api.Bucket, want bool) {
	t.Helper()
	what = "Check of " + what
	lent, same := lend(t, what, l)
	wantTruth(t, what, bucket.Check(lent), want)
	same(nil)
}

func wantLeft(t *testing.T, l []api.Bucket, key string, now int64, want int) {
	t.Helper()
	what := fmt.Sprintf("Left(%+v, %.20q, %d)", l, key, now)
	lent, same := lend(t, what, l)
	wantNumber(t, what, int64(bucket.Left(lent, key, now)), int64(want))
	same(nil)
}

func wantWait(t *testing.T, l []api.Bucket, key string, now, want int64) {
	t.Helper()
	what := fmt.Sprintf("Wait(%+v, %.20q, %d)", l, key, now)
	lent, same := lend(t, what, l)
	wantNumber(t, what, bucket.Wait(lent, key, now), want)
	same(nil)
}

func wantMost(t *testing.T, ticks, want int64) {
	t.Helper()
	wantNumber(t, fmt.Sprintf("Most(%d)", ticks), bucket.Most(ticks), want)
}

func wantTake(t *testing.T, l []api.Bucket, key string, now int64, want []api.Bucket, code api.Errno) {
	t.Helper()
	what := fmt.Sprintf("Take(%+v, %.20q, %d)", l, key, now)
	lent, same := lend(t, what, l)
	got, err := bucket.Take(lent, key, now)
	wantNumber(t, what, int64(err), int64(code))
	wantList(t, what, got, want)
	same(got)
}

func wantSweep(t *testing.T, l []api.Bucket, now int64, want []api.Bucket) {
	t.Helper()
	what := fmt.Sprintf("Sweep(%+v, %d)", l, now)
	lent, same := lend(t, what, l)
	got := bucket.Sweep(lent, now)
	wantList(t, what, got, want)
	same(got)
}

// insert is l with b at i, ahead of what stood there.
func insert(l []api.Bucket, i int, b api.Bucket) []api.Bucket {
	return slices.Insert(slices.Clone(l), i, b)
}

// take is what Take leaves of l, where it is expected to return api.OK.
func take(t *testing.T, l []api.Bucket, key string, now int64) []api.Bucket {
	t.Helper()
	l, err := bucket.Take(l, key, now)
	wantNumber(t, fmt.Sprintf("Take of %q at %d", key, now), int64(err), 0)
	return l
}

// P12.1: Check.

func TestCheckOfSizes(t *testing.T) {
	wantCheck(t, "a nil list", nil, true)
	wantCheck(t, "an empty list", []api.Bucket{}, true)
	for n := range 100 {
		wantCheck(t, fmt.Sprint(n, " buckets"), rows(n, 9), n <= 24)
	}
	wantCheck(t, "many buckets", slices.Repeat(rows(100, 9), 100), false)
}

func TestCheckOfKeys(t *testing.T) {
	good := [][]string{
		{"a"}, {"a", "b"}, {"a", "aa"}, {"a", "a\x00"}, {"aa", "b"}, {"a", "aa", "aaa", "ab", "b"}, {"\x00"}, {"\x00", "\x00\x00"}, {"\x00", "\x01"}, {"\x7f", "\x80"},
		{"\x80", "\xff"}, {"\xff", "\xff\x00"}, {"Z", "a"}, {"10", "9"}, {"z", "\u00e4"}, {"\uffff", "\U00010000"}, {"a b", "a,b"}, {strings.Repeat("a", 999), strings.Repeat("a", 1000)},
	}
	for _, keys := range good {
		var l, back []api.Bucket
		for _, k := range keys {
			l = append(l, api.Bucket{Key: k})
			back = append([]api.Bucket{{Key: k}}, back...)
			wantCheck(t, fmt.Sprintf("%.20q twice", k), []api.Bucket{{Key: k}, {Key: k}}, false)
			wantCheck(t, fmt.Sprintf("%.20q behind no key", k), []api.Bucket{{}, {Key: k}}, false)
			wantCheck(t, fmt.Sprintf("%.20q ahead of no key", k), []api.Bucket{{Key: k}, {}}, false)
		}
		wantCheck(t, fmt.Sprintf("%.99q", keys), l, true)
		wantCheck(t, fmt.Sprintf("%.99q backwards", keys), back, len(keys) == 1)
	}
	wantCheck(t, "no key", []api.Bucket{{}}, false)
	wantCheck(t, "no key twice", []api.Bucket{{}, {}}, false)
}

func TestCheckOfKeysAtEachPlace(t *testing.T) {
	for _, n := range []int{1, 2, 3, 23, 24} {
		for i := range n {
			l := rows(n, 9)
			l[i].Key = ""
			wantCheck(t, fmt.Sprint(n, " buckets, without a key at ", i), l, false)
			for j := range n {
				l = rows(n, 9)
				l[i].Key = l[j].Key
				wantCheck(t, fmt.Sprint(n, " buckets, with one key at ", i, " and ", j), l, i == j)
				l = rows(n, 9)
				l[i], l[j] = l[j], l[i]
				wantCheck(t, fmt.Sprint(n, " buckets, exchanged at ", i, " and ", j), l, i == j)
			}
		}
	}
}

func TestCheckOfNumbers(t *testing.T) {
	is := func(left int, at int64, want bool) {
		t.Helper()
		b := of("ann", left, at)
		wantCheck(t, fmt.Sprintf("%+v", b), []api.Bucket{b}, want)
		for _, n := range []int{2, 3, 23, 24} {
			for i := range n {
				l := rows(n, 9)
				l[i].Left, l[i].At = left, at
				wantCheck(t, fmt.Sprintf("%d buckets with %+v at %d", n, l[i], i), l, want)
			}
		}
	}
	for _, left := range []int{0, 1, 2, 3} {
		for _, at := range []int64{0, 1, 24, 25, 1 << 31, 1 << 32, maxTime - 1, maxTime} {
			is(left, at, true)
		}
		for _, at := range wrongTimes {
			is(left, at, false)
		}
	}
	for _, left := range []int{4, 5, 25, 1 << 31, 1 << 32, math.MaxInt, -1, -4, math.MinInt, math.MinInt + 1} {
		for _, at := range []int64{0, 9, maxTime, -1} {
			is(left, at, false)
		}
	}
}

// P12.1: Left and Wait.

// eachTime looks at buckets of Ann at times around those at which one more comes, with how long behind the bucket's At that is.
func eachTime(look func(b api.Bucket, now, behind int64)) {
	for left := range 4 {
		for _, at := range []int64{0, 1, 1000, 1 << 33, maxTime - 100, maxTime} {
			for _, behind := range append(behinds, maxTime-at, -at) {
				if now := at + behind; now >= 0 && now <= maxTime {
					look(of("ann", left, at), now, behind)
				}
			}
		}
	}
}

// leftIn is what is left in a bucket so many ticks behind its At, by the document's words.
func leftIn(left int, behind int64) int {
	for n := int64(25); n <= behind && left < 4; n += 25 {
		left++
	}
	return left
}

func TestLeftAndWaitAtEachTime(t *testing.T) {
	eachTime(func(b api.Bucket, now, behind int64) {
		l := []api.Bucket{b}
		wantLeft(t, l, "ann", now, leftIn(b.Left, behind))
		wait := int64(0)
		if b.Left == 0 && behind < 25 {
			wait = 25 - behind
		}
		wantWait(t, l, "ann", now, wait)
	})
}

func TestLeftIsWrittenOut(t *testing.T) {
	l := []api.Bucket{{Key: "ann", Left: 0, At: 1000}, {Key: "bob", Left: 3, At: 1000}}
	for _, c := range []struct {
		now      int64
		ann, bob int
		wait     int64
	}{
		{0, 0, 3, 1025}, {999, 0, 3, 26}, {1000, 0, 3, 25}, {1001, 0, 3, 24}, {1024, 0, 3, 1}, {1025, 1, 4, 0}, {1026, 1, 4, 0}, {1049, 1, 4, 0}, {1050, 2, 4, 0},
		{1074, 2, 4, 0}, {1075, 3, 4, 0}, {1099, 3, 4, 0}, {1100, 4, 4, 0}, {1101, 4, 4, 0}, {1125, 4, 4, 0}, {maxTime, 4, 4, 0},
	} {
		wantLeft(t, l, "ann", c.now, c.ann)
		wantLeft(t, l, "bob", c.now, c.bob)
		wantWait(t, l, "ann", c.now, c.wait)
		wantWait(t, l, "bob", c.now, 0)
	}
}

// A wait ends at the first tick at which something is left.
func TestWaitIsNoLongerThanNeeded(t *testing.T) {
	for left := range 4 {
		l := []api.Bucket{{Key: "ann", Left: left, At: 200}}
		for now := range int64(400) {
			wait := bucket.Wait(l, "ann", now)
			wantTruth(t, fmt.Sprint("left after the wait from ", now), bucket.Left(l, "ann", now+wait) > 0, true)
			for earlier := range wait {
				wantLeft(t, l, "ann", now+earlier, 0)
			}
		}
	}
}

func TestLeftAndWaitOfKeys(t *testing.T) {
	for _, n := range []int{0, 1, 2, 3, 4, 5, 23, 24} {
		l := rows(n, 9)
		for i := range l {
			l[i].Left = i % 3
		}
		for i := range l {
			wantLeft(t, l, l[i].Key, 9, i%3)
			wantWait(t, l, l[i].Key, 9, map[bool]int64{true: 25}[i%3 == 0])
			// Keys that are alike are other keys.
			for _, other := range []string{l[i].Key + "a", l[i].Key + "\x00", l[i].Key[:5], strings.ToUpper(l[i].Key), " " + l[i].Key, l[i].Key[1:]} {
				wantLeft(t, l, other, 9, 4)
				wantWait(t, l, other, 9, 0)
			}
		}
		for i := -1; i <= n; i++ {
			wantLeft(t, l, keyOf(2*i+1), 9, 4)
			wantWait(t, l, keyOf(2*i+1), 9, 0)
		}
		for _, other := range []string{"", "a", "zzz", "\x00", "\xff", strings.Repeat("k", 1<<20)} {
			wantLeft(t, l, other, 9, 4)
			wantWait(t, l, other, 9, 0)
		}
	}
	wantLeft(t, nil, "ann", 0, 4)
	wantLeft(t, nil, "", 0, 4)
	wantWait(t, nil, "ann", maxTime, 0)
	wantWait(t, nil, "", maxTime, 0)
}

func TestLeftOfKeysThatBeginAlike(t *testing.T) {
	l := []api.Bucket{of("a", 0, 0), of("a\x00", 1, 0), of("aa", 2, 0), of("ab", 3, 0), of("\x80", 1, 0), of("\xff", 2, 0)}
	wantCheck(t, "keys that begin alike", l, true)
	for _, b := range l {
		wantLeft(t, l, b.Key, 0, b.Left)
	}
	for _, other := range []string{"", "\x00", "a\x00\x00", "a\x01", "aaa", "b", "\x7f", "\x81", "\xff\x00", "\xff\xff"} {
		wantLeft(t, l, other, 0, 4)
	}
}

// P12.1: Most.

func TestMost(t *testing.T) {
	for _, c := range []struct{ ticks, want int64 }{
		{math.MinInt64, 0}, {math.MinInt64 + 1, 0}, {-maxTime, 0}, {-26, 0}, {-25, 0}, {-1, 0}, {0, 0}, {1, 4}, {2, 4}, {24, 4}, {25, 4}, {26, 5}, {27, 5}, {50, 5}, {51, 6}, {75, 6}, {76, 7}, {100, 7}, {101, 8},
		{1000, 43}, {1001, 44}, {1 << 32, 171798695}, {maxTime - 1, 43980465114}, {maxTime, 43980465115}, {maxTime + 1, 43980465115}, {maxTime + 1000, 43980465115}, {math.MaxInt64 - 1, 43980465115}, {math.MaxInt64, 43980465115},
	} {
		wantMost(t, c.ticks, c.want)
	}
	for ticks := int64(1); ticks < 3000; ticks++ {
		most := int64(4)
		for n := int64(25); n <= ticks-1; n += 25 {
			most++
		}
		wantMost(t, ticks, most)
	}
}

// P12.2: taking.

func TestTakeExample(t *testing.T) {
	var l []api.Bucket
	for i := range 4 {
		wantTake(t, l, "ann", 0, []api.Bucket{of("ann", 3-i, 0)}, api.OK)
		l = take(t, l, "ann", 0)
	}
	wantTake(t, l, "ann", 0, l, api.ErrSlow)
	wantTake(t, l, "ann", 24, l, api.ErrSlow)
	wantTake(t, l, "ann", 25, []api.Bucket{of("ann", 0, 25)}, api.OK)
	wantTake(t, l, "bob", 0, []api.Bucket{of("ann", 0, 0), of("bob", 3, 0)}, api.OK)
}

func TestTakeOfNoKey(t *testing.T) {
	for _, n := range []int{0, 1, 2, 23, 24} {
		for _, now := range []int64{0, 9, 1000, maxTime} {
			wantTake(t, rows(n, 9), "", now, rows(n, 9), api.ErrSlow)
		}
	}
	wantTake(t, nil, "", 0, nil, api.ErrSlow)
}

func TestTakeAtEachTime(t *testing.T) {
	eachTime(func(b api.Bucket, now, behind int64) {
		l := []api.Bucket{b}
		switch n := leftIn(b.Left, behind); n {
		case 0:
			wantTake(t, l, "ann", now, l, api.ErrSlow)
		case 4:
			wantTake(t, l, "ann", now, []api.Bucket{of("ann", 3, now)}, api.OK)
		default:
			wantTake(t, l, "ann", now, []api.Bucket{of("ann", n-1, b.At+int64(n-b.Left)*25)}, api.OK)
		}
	})
}

func TestTakeIsWrittenOut(t *testing.T) {
	for _, c := range []struct {
		left     int
		at, now  int64
		want     int
		wantedAt int64
	}{
		{1, 100, 100, 0, 100}, {1, 100, 99, 0, 100}, {1, 100, 0, 0, 100}, {3, 100, 0, 2, 100}, {3, 100, 124, 2, 100}, {3, 100, 125, 3, 125}, {2, 100, 124, 1, 100}, {2, 100, 125, 2, 125}, {2, 100, 149, 2, 125}, {2, 100, 150, 3, 150},
		{0, 100, 125, 0, 125}, {0, 100, 126, 0, 125}, {0, 100, 149, 0, 125}, {0, 100, 150, 1, 150}, {0, 100, 174, 1, 150}, {0, 100, 175, 2, 175}, {0, 100, 199, 2, 175}, {0, 100, 200, 3, 200}, {0, 100, 201, 3, 201}, {0, 100, maxTime, 3, maxTime},
	} {
		wantTake(t, []api.Bucket{of("ann", c.left, c.at)}, "ann", c.now, []api.Bucket{of("ann", c.want, c.wantedAt)}, api.OK)
	}
}

// No tick is lost: one takes at each tick, and in the end all is taken that came.
func TestTakeLosesNoTick(t *testing.T) {
	for _, step := range []int64{1, 2, 7, 24, 25} {
		var l []api.Bucket
		taken := int64(0)
		for range 4 {
			l, taken = take(t, l, "ann", 3), taken+1
		}
		for now := int64(3); now <= 3+25*7*24; now += step {
			if left, err := bucket.Take(l, "ann", now); err == api.OK {
				l, taken = left, taken+1
			}
		}
		wantNumber(t, fmt.Sprint("taken, in steps of ", step), taken, 4+7*24)
	}
}

func TestTakeOfNewKeys(t *testing.T) {
	for n := range 30 {
		l := rows(n, 9)
		for i := range n + 1 {
			want, code := insert(l, i, of(keyOf(2*i-1), 3, 20)), api.OK
			if n >= 24 {
				want, code = l, api.ErrFull
			}
			if n <= 24 {
				wantTake(t, l, keyOf(2*i-1), 20, want, code)
			}
		}
	}
	wantTake(t, []api.Bucket{}, "ann", 0, []api.Bucket{of("ann", 3, 0)}, api.OK)
	wantTake(t, nil, "ann", maxTime, []api.Bucket{of("ann", 3, maxTime)}, api.OK)
	l := []api.Bucket{of("a", 0, 0), of("aa", 2, 0), of("\xff", 2, 0)}
	wantTake(t, l, "\x00", 5, insert(l, 0, of("\x00", 3, 5)), api.OK)
	wantTake(t, l, "a\x00", 5, insert(l, 1, of("a\x00", 3, 5)), api.OK)
	wantTake(t, l, "aaa", 5, insert(l, 2, of("aaa", 3, 5)), api.OK)
	wantTake(t, l, "\u00e4", 5, insert(l, 2, of("\u00e4", 3, 5)), api.OK)
	wantTake(t, l, "\xff\x00", 5, insert(l, 3, of("\xff\x00", 3, 5)), api.OK)
}

func TestTakeOfKnownKeysAtEachPlace(t *testing.T) {
	for _, n := range []int{1, 2, 3, 23, 24} {
		for i := range n {
			l := rows(n, 9)
			wantTake(t, l, l[i].Key, 33, l, api.ErrSlow)
			want := rows(n, 9)
			want[i].At = 34
			wantTake(t, l, l[i].Key, 34, want, api.OK)
			l[i].Left, want[i].Left, want[i].At = 2, 1, 9
			wantTake(t, l, l[i].Key, 8, want, api.OK)
			wantTake(t, l, l[i].Key, 33, want, api.OK)
		}
	}
}

// Buckets that are full at now are gone from what a Take returns, and so is that of the key itself.
func TestTakeSweeps(t *testing.T) {
	l := []api.Bucket{of("a", 0, 1), of("b", 0, 0), of("c", 3, 74), of("d", 3, 75), of("e", 3, 76), of("f", 1, 25), of("g", 1, 26), of("h", 3, 500)}
	wantTake(t, l, "x", 100, []api.Bucket{of("a", 0, 1), of("e", 3, 76), of("g", 1, 26), of("h", 3, 500), of("x", 3, 100)}, api.OK)
	wantTake(t, l, "b", 100, []api.Bucket{of("a", 0, 1), of("b", 3, 100), of("e", 3, 76), of("g", 1, 26), of("h", 3, 500)}, api.OK)
	wantTake(t, l, "f", 100, []api.Bucket{of("a", 0, 1), of("e", 3, 76), of("f", 3, 100), of("g", 1, 26), of("h", 3, 500)}, api.OK)
	wantTake(t, l, "a", 100, []api.Bucket{of("a", 2, 76), of("e", 3, 76), of("g", 1, 26), of("h", 3, 500)}, api.OK)
	wantTake(t, l, "h", 100, []api.Bucket{of("a", 0, 1), of("e", 3, 76), of("g", 1, 26), of("h", 2, 500)}, api.OK)
	// With an error nothing is swept.
	wantTake(t, l, "", 100, l, api.ErrSlow)
	l[4] = api.Bucket{Key: "e", At: 76}
	wantTake(t, l, "e", 100, l, api.ErrSlow)
}

func TestTakeOfNewKeysIfThereIsNoRoom(t *testing.T) {
	for full := range 25 {
		for i := range 25 {
			l := rows(24, 90)
			var kept []api.Bucket
			for j := range l {
				// Those that are full at 100 stand anywhere among the others.
				if j*7%24 < full {
					l[j].At = 0
				} else {
					kept = append(kept, l[j])
				}
			}
			key := keyOf(2*i - 1)
			if full == 0 {
				wantTake(t, l, key, 100, l, api.ErrFull)
				continue
			}
			at := sort.Search(len(kept), func(j int) bool { return kept[j].Key > key })
			wantTake(t, l, key, 100, insert(kept, at, of(key, 3, 100)), api.OK)
			// One tick earlier none of them is full.
			wantTake(t, l, key, 99, l, api.ErrFull)
		}
	}
}

// A key whose own bucket is full at now has no bucket any more, but room for one.
func TestTakeOfAFullBucketInAFullList(t *testing.T) {
	for i := range 24 {
		l := rows(24, 90)
		l[i].At = 0
		want := rows(24, 90)
		want[i].Left, want[i].At = 3, 103
		wantTake(t, l, l[i].Key, 103, want, api.OK)
	}
}

// P12.3: sweeping.

func TestSweepAtEachTime(t *testing.T) {
	eachTime(func(b api.Bucket, now, behind int64) {
		l := []api.Bucket{b}
		if behind >= int64(4-b.Left)*25 {
			wantSweep(t, l, now, nil)
		} else {
			wantSweep(t, l, now, l)
		}
	})
}

func TestSweepKeepsTheOrder(t *testing.T) {
	wantSweep(t, nil, 0, nil)
	wantSweep(t, []api.Bucket{}, maxTime, nil)
	for n := range 25 {
		for full := range n + 1 {
			l := rows(n, 0)
			var kept []api.Bucket
			for i := range l {
				if i*7%n >= full {
					l[i].At = 1
					kept = append(kept, l[i])
				}
			}
			wantSweep(t, l, 99, l)
			wantSweep(t, l, 100, kept)
			wantSweep(t, l, 101, nil)
		}
	}
}

// P12.1 to P12.3 by a model.

// modelSweep is Sweep by the document's words.
func modelSweep(l []api.Bucket, now int64) []api.Bucket {
	var kept []api.Bucket
	for _, b := range l {
		if leftIn(b.Left, now-b.At) < 4 {
			kept = append(kept, b)
		}
	}
	return kept
}

// modelLeft is Left by the document's words.
func modelLeft(l []api.Bucket, key string, now int64) int {
	for _, b := range l {
		if b.Key == key {
			return leftIn(b.Left, now-b.At)
		}
	}
	return 4
}

// modelTake is Take by the document's words.
func modelTake(l []api.Bucket, key string, now int64) ([]api.Bucket, api.Errno) {
	left := modelLeft(l, key, now)
	if key == "" || left == 0 {
		return l, api.ErrSlow
	}
	swept := modelSweep(l, now)
	for i, b := range swept {
		if b.Key == key {
			for b.At+25 <= now {
				b.At += 25
			}
			swept[i] = of(key, left-1, b.At)
			return swept, api.OK
		}
	}
	if len(swept) == 24 {
		return l, api.ErrFull
	}
	swept = append(swept, of(key, 3, now))
	sort.Slice(swept, func(i, j int) bool { return swept[i].Key < swept[j].Key })
	return swept, api.OK
}

// modelWait is Wait by the document's words.
func modelWait(l []api.Bucket, key string, now int64) int64 {
	wait := int64(0)
	for modelLeft(l, key, now+wait) == 0 {
		wait++
	}
	return wait
}

// anyKey is a key, which may be the empty one.
func anyKey(source *rand.Rand) string {
	b := make([]byte, source.Intn(4))
	for i := range b {
		b[i] = "\x00ab\x80\xff"[source.Intn(5)]
	}
	return string(b)
}

// anyList is a valid list of at most 24 buckets.
func anyList(source *rand.Rand) []api.Bucket {
	by := map[string]api.Bucket{}
	for range source.Intn(60) {
		if k := anyKey(source); k != "" && len(by) < 24 {
			by[k] = of(k, source.Intn(4), 100+source.Int63n(150))
		}
	}
	var l []api.Bucket
	for _, b := range by {
		l = append(l, b)
	}
	sort.Slice(l, func(i, j int) bool { return l[i].Key < l[j].Key })
	return l
}

func TestAllByTheModel(t *testing.T) {
	source := rand.New(rand.NewSource(12))
	codes := map[api.Errno]int{}
	for range 20000 {
		l := anyList(source)
		key, now := anyKey(source), source.Int63n(350)
		if len(l) > 0 && source.Intn(2) == 0 {
			key = l[source.Intn(len(l))].Key
		}
		wantCheck(t, "a valid list", l, true)
		wantLeft(t, l, key, now, modelLeft(l, key, now))
		wantWait(t, l, key, now, modelWait(l, key, now))
		wantSweep(t, l, now, modelSweep(l, now))
		want, code := modelTake(l, key, now)
		wantTake(t, l, key, now, want, code)
		wantCheck(t, "what Take leaves", want, true)
		codes[code]++
	}
	// Otherwise the lists would show too little.
	for _, code := range []api.Errno{api.OK, api.ErrSlow, api.ErrFull} {
		wantTruth(t, fmt.Sprintf("%d results with %d", codes[code], code), codes[code] > 200, true)
	}
}

// What was swept tells the same as it did, then and later.
func TestSweptListsTellTheSame(t *testing.T) {
	source := rand.New(rand.NewSource(123))
	for range 4000 {
		l := anyList(source)
		now := source.Int63n(350)
		swept := bucket.Sweep(l, now)
		wantCheck(t, "what was swept", swept, true)
		wantList(t, "what was swept twice", bucket.Sweep(swept, now), swept)
		for range 4 {
			later, key := now+source.Int63n(120), anyKey(source)
			if len(l) > 0 && source.Intn(2) == 0 {
				key = l[source.Intn(len(l))].Key
			}
			wantLeft(t, swept, key, later, bucket.Left(l, key, later))
			wantWait(t, swept, key, later, bucket.Wait(l, key, later))
			wantList(t, "what is swept later", bucket.Sweep(swept, later), bucket.Sweep(l, later))
			got, err := bucket.Take(swept, key, later)
			want, code := bucket.Take(l, key, later)
			if wantNumber(t, "Take of what was swept", int64(err), int64(code)); code == api.OK {
				wantList(t, "Take of what was swept", got, want)
			}
		}
	}
}

// P12.4: consequences.

// wantNoMore asks that within no number of ticks more was taken than Most says, where times are those at which one was taken, in their order. It returns whether within some it was as much.
func wantNoMore(t *testing.T, what string, times []int64) bool {
	t.Helper()
	reached := false
	for i := range times {
		for j := i; j < len(times); j++ {
			// The fewest ticks in which all from i to j were taken.
			ticks := times[j] - times[i] + 1
			taken, most := int64(j-i+1), bucket.Most(ticks)
			if taken > most {
				t.Errorf("%s: %d were taken within %d ticks from %d on, but Most is %d", what, taken, ticks, times[i], most)
			}
			reached = reached || ticks > 25 && taken == most
		}
	}
	return reached
}

// All rows of eight calls with some gaps between them.
func TestAllRowsOfTakes(t *testing.T) {
	gaps := []int64{0, 1, 24, 25, 26, 60}
	reached := 0
	for row := range 6 * 6 * 6 * 6 * 6 * 6 * 6 {
		var l []api.Bucket
		var times []int64
		now := int64(10)
		for range 8 {
			left, err := bucket.Take(l, "ann", now)
			if err == api.OK {
				l, times = left, append(times, now)
			}
			now += gaps[row%6]
			row /= 6
		}
		if wantNoMore(t, fmt.Sprint("row ", row), times) {
			reached++
		}
	}
	wantTruth(t, fmt.Sprint(reached, " rows in which as much was taken"), reached > 1000, true)
}

// Long rows of calls of several keys, of which some find no room.
func TestRowsOfCalls(t *testing.T) {
	reached, refused, full := 0, 0, 0
	for seed := range int64(200) {
		source := rand.New(rand.NewSource(seed))
		keys, pace := 1+source.Intn(60), 1+source.Int63n(30)
		times := map[string][]int64{}
		var l []api.Bucket
		now := source.Int63n(2) * (maxTime - 100000)
		for range 600 {
			key := keyOf(source.Intn(keys))
			left, wait := bucket.Left(l, key, now), bucket.Wait(l, key, now)
			wantTruth(t, "something left without a wait", left > 0, wait == 0)
			was := slices.Clone(l)
			got, err := bucket.Take(l, key, now)
			wantList(t, "the list that was handed in", l, was)
			wantTruth(t, "ErrSlow", err == api.ErrSlow, left == 0)
			switch err {
			case api.OK:
				times[key] = append(times[key], now)
				wantNumber(t, "what Take leaves", int64(bucket.Left(got, key, now)), int64(left-1))
			case api.ErrSlow:
				refused++
				wantList(t, "what ErrSlow leaves", got, l)
			default:
				full++
				wantNumber(t, "the error", int64(err), int64(api.ErrFull))
				wantList(t, "what ErrFull leaves", got, l)
			}
			l = got
			if wantCheck(t, "what Take leaves", l, true); source.Intn(20) == 0 {
				l = bucket.Sweep(l, now)
			}
			now += source.Int63n(pace)
		}
		for key, at := range times {
			if wantNoMore(t, fmt.Sprintf("seed %d, key %q", seed, key), at) {
				reached++
			}
		}
	}
	// Otherwise the rows would show too little.
	wantTruth(t, fmt.Sprint(reached, " reached, ", refused, " refused, ", full, " without room"), reached > 50 && refused > 1000 && full > 100, true)
}

// P1: all calls end for whatever they are given.
func TestCallsOfWhatIsNotValid(t *testing.T) {
	times := append([]int64{0, 1, 25, 100, maxTime}, wrongTimes...)
	lists := [][]api.Bucket{nil, {{}}, {{}, {}}, {{Key: "b"}, {Key: "a"}}, {{Key: "a"}, {Key: "a", Left: 2}}, rows(25, 9), rows(100, 0), slices.Repeat(rows(999, 0), 100)}
	for _, left := range []int{math.MinInt, math.MinInt + 1, -1, 0, 3, 4, 5, math.MaxInt - 1, math.MaxInt} {
		for _, at := range times {
			lists = append(lists, []api.Bucket{of("a", left, at)}, []api.Bucket{of("z", left, at), of("a", left, at), of("b", left, at), of("a", left, at)})
		}
	}
	for _, l := range lists {
		lent, same := lend(t, "a call", l)
		for _, now := range times {
			for _, key := range []string{"", "a", "b", "c", "z", keyOf(0)} {
				bucket.Check(lent)
				bucket.Left(lent, key, now)
				bucket.Wait(lent, key, now)
				got, _ := bucket.Take(lent, key, now)
				same(got)
			}
			same(bucket.Sweep(lent, now))
		}
	}
}

// R4: equal calls return equal results, and what was returned earlier stays as it was.
func TestEqualCalls(t *testing.T) {
	l := rows(20, 90)
	l[3].At, l[5].Left, l[9].At = 0, 2, 70
	first := [][]api.Bucket{take(t, l, "key", 100), take(t, l, l[5].Key, 100), take(t, l, l[9].Key, 100), take(t, l, "zzz", 100), bucket.Sweep(l, 100)}
	was := [][]api.Bucket{}
	for _, x := range first {
		was = append(was, slices.Clone(x))
	}
	for range 20 {
		again := [][]api.Bucket{take(t, l, "key", 100), take(t, l, l[5].Key, 100), take(t, l, l[9].Key, 100), take(t, l, "zzz", 100), bucket.Sweep(l, 100)}
		for i, x := range first {
			// Two lists that were made of one do not write into each other.
			one, other := take(t, x, "aaa", 101), take(t, x, "zzzz", 101)
			wantNumber(t, "the first key", int64(strings.Compare(one[0].Key, "aaa")), 0)
			wantNumber(t, "the last key", int64(strings.Compare(other[len(other)-1].Key, "zzzz")), 0)
			wantList(t, "equal calls", again[i], was[i])
			wantList(t, "what was returned", x, was[i])
		}
	}
}
