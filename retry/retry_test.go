package retry_test

import (
	"fmt"
	"math"
	"math/rand"
	"testing"

	"homecoming/mint"
	"homecoming/retry"
)

// maxTime is the last time there is, as the document has it.
const maxTime = int64(1) << 40

// million is the last attempt that a sum counts.
const million = 1000000

// edges are attempts, and numbers of them, at which something may break.
var edges = []int{
	math.MinInt, math.MinInt + 1, math.MinInt + 2, math.MinInt32, -1<<32 + 1, -1<<32 + 8, -million - 1, -million, -65, -64, -8, -7, -2, -1,
	0, 1, 2, 3, 4, 5, 6, 7, 8, 9, 10, 15, 16, 31, 32, 33, 62, 63, 64, 65, 66, 127, 128, 129, 255, 256, 257, 258, 1<<16 + 1,
	million - 2, million - 1, million, million + 1, million + 2, math.MaxInt32, 1<<32 + 1, 1<<32 + 8, math.MaxInt - 1, math.MaxInt,
}

// times are points of time at which something may break, those that there are not among them.
var times = []int64{
	math.MinInt64, math.MinInt64 + 1, math.MinInt64 + 64, -maxTime, -65, -64, -63, -2, -1, 0, 1, 2, 63, 64, 65, 1 << 31, 1 << 32,
	maxTime - 66, maxTime - 65, maxTime - 64, maxTime - 63, maxTime - 2, maxTime - 1, maxTime, maxTime + 1, maxTime + 64, 2 * maxTime,
	math.MaxInt64 - 65, math.MaxInt64 - 64, math.MaxInt64 - 63, math.MaxInt64 - 1, math.MaxInt64,
}

func wantNumber(t *testing.T, what string, got, want int64) {
	t.Helper()
	if got != want {
		t.Errorf("%s: %d, want %d", what, got, want)
	}
}

func wantTruth(t *testing.T, what string, got, want bool) {
	t.Helper()
	if got != want {
		t.Errorf("%s: %v, want %v", what, got, want)
	}
}

func wantDelay(t *testing.T, attempt int, want int64) {
	t.Helper()
	wantNumber(t, fmt.Sprintf("Delay(%d)", attempt), retry.Delay(attempt), want)
}

func wantNext(t *testing.T, now int64, attempt int, want int64) {
	t.Helper()
	wantNumber(t, fmt.Sprintf("Next(%d, %d)", now, attempt), retry.Next(now, attempt), want)
}

func wantDead(t *testing.T, attempt int, want bool) {
	t.Helper()
	wantTruth(t, fmt.Sprintf("Dead(%d)", attempt), retry.Dead(attempt), want)
}

func wantSum(t *testing.T, from, to int, want int64) {
	t.Helper()
	wantNumber(t, fmt.Sprintf("Sum(%d, %d)", from, to), retry.Sum(from, to), want)
}

func wantWithin(t *testing.T, times int, each, want int64) {
	t.Helper()
	wantNumber(t, fmt.Sprintf("Within(%d, %d)", times, each), retry.Within(times, each), want)
}

func wantTries(t *testing.T, ticks int64, want int) {
	t.Helper()
	wantNumber(t, fmt.Sprintf("Tries(%d)", ticks), int64(retry.Tries(ticks)), int64(want))
}

// modelDelay is the delay after an attempt by the document's words.
func modelDelay(attempt int) int64 {
	switch {
	case attempt < 1:
		return 0
	case attempt > 6:
		return 64
	}
	return int64(math.Pow(2, float64(attempt-1)))
}

// modelNext is Next by the document's words.
func modelNext(now int64, attempt int) int64 {
	switch delay := modelDelay(attempt); {
	case now < 0:
		return 0
	case now > maxTime-delay:
		return maxTime
	default:
		return now + delay
	}
}

// modelSums are the sums of the delays of the attempts from 1 to each one up to a million.
func modelSums() []int64 {
	l := make([]int64, million+1)
	for n := 1; n <= million; n++ {
		l[n] = l[n-1] + modelDelay(n)
	}
	return l
}

// modelSum is Sum by the document's words, where l is modelSums.
func modelSum(l []int64, from, to int) int64 {
	if from < 1 {
		from = 1
	}
	if to > million {
		to = million
	}
	if from > to {
		return 0
	}
	return l[to] - l[from-1]
}

// modelWithin is Within by the document's words, where l is modelSums.
func modelWithin(l []int64, times int, each int64) int64 {
	if each < 1 {
		each = 1
	}
	if each > million {
		each = million
	}
	if times > million {
		times = million
	}
	if times < 1 {
		return 0
	}
	return l[times] + int64(times)*(each-1)
}

// P13.1: delays.

func TestDelayIsWrittenOut(t *testing.T) {
	// The document's example.
	wantDelay(t, 1, 1)
	wantDelay(t, 4, 8)
	wantDelay(t, 8, 64)
	wantDelay(t, 99, 64)
	for i, want := range []int64{0, 1, 2, 4, 8, 16, 32, 64, 64, 64, 64} {
		wantDelay(t, i, want)
	}
	for _, attempt := range []int{-1, -2, -7, -8, -64, math.MinInt + 1, math.MinInt} {
		wantDelay(t, attempt, 0)
	}
	for _, attempt := range []int{62, 63, 64, 65, 66, million, math.MaxInt - 1, math.MaxInt} {
		wantDelay(t, attempt, 64)
	}
}

func TestDelayByTheModel(t *testing.T) {
	for attempt := -2000; attempt <= 2000; attempt++ {
		wantDelay(t, attempt, modelDelay(attempt))
	}
	for _, attempt := range edges {
		wantDelay(t, attempt, modelDelay(attempt))
	}
}

func TestNextIsWrittenOut(t *testing.T) {
	for _, c := range []struct {
		now     int64
		attempt int
		want    int64
	}{
		{0, 1, 1}, {1, 2, 3}, {3, 3, 7}, {7, 4, 15}, {15, 5, 31}, {31, 6, 63}, {63, 7, 127}, {127, 8, 191}, {191, 9, 255}, {10, 3, 14}, {100, math.MaxInt, 164},
		// Without an attempt there is no delay.
		{0, 0, 0}, {5, 0, 5}, {5, -1, 5}, {5, math.MinInt, 5}, {maxTime, 0, maxTime}, {maxTime + 1, 0, maxTime}, {-5, 0, 0},
		// No time is later than the last one.
		{maxTime, 1, maxTime}, {maxTime - 1, 1, maxTime}, {maxTime - 2, 1, maxTime - 1}, {maxTime - 65, 8, maxTime - 1}, {maxTime - 64, 8, maxTime}, {maxTime - 63, 8, maxTime}, {maxTime + 1, 1, maxTime}, {math.MaxInt64, 1, maxTime}, {math.MaxInt64, 99, maxTime},
		// Nor is there one below 0, from which a delay could be counted.
		{-1, 1, 0}, {-1, 2, 0}, {-1, 8, 0}, {-64, 8, 0}, {math.MinInt64, 1, 0}, {math.MinInt64, math.MaxInt, 0}, {math.MinInt64, math.MinInt, 0},
	} {
		wantNext(t, c.now, c.attempt, c.want)
	}
}

func TestNextByTheModel(t *testing.T) {
	for _, now := range times {
		for _, attempt := range edges {
			wantNext(t, now, attempt, modelNext(now, attempt))
			wantNext(t, now, attempt, mint.Clock(now, modelDelay(attempt)))
		}
	}
	source := rand.New(rand.NewSource(13))
	for range 20000 {
		now, attempt := source.Int63n(maxTime), source.Intn(14)-2
		wantNext(t, now, attempt, now+modelDelay(attempt))
		now = int64(source.Uint64())
		wantNext(t, now, attempt, modelNext(now, attempt))
	}
}

func TestDead(t *testing.T) {
	for _, attempt := range []int{math.MinInt, math.MinInt + 1, -9, -8, -7, -1, 0, 1, 6, 7} {
		wantDead(t, attempt, false)
	}
	for _, attempt := range []int{8, 9, 10, 64, 256, math.MaxInt - 1, math.MaxInt} {
		wantDead(t, attempt, true)
	}
	for attempt := -2000; attempt <= 2000; attempt++ {
		wantDead(t, attempt, attempt > 7)
	}
	for _, attempt := range edges {
		wantDead(t, attempt, attempt > 7)
	}
}

// P13.2: sums.

func TestSumIsWrittenOut(t *testing.T) {
	for _, c := range []struct {
		from, to int
		want     int64
	}{
		{1, 1, 1}, {1, 2, 3}, {1, 3, 7}, {1, 4, 15}, {1, 5, 31}, {1, 6, 63}, {1, 7, 127}, {1, 8, 191}, {1, 9, 255},
		{2, 2, 2}, {2, 4, 14}, {6, 6, 32}, {6, 7, 96}, {6, 10, 288}, {7, 7, 64}, {7, 8, 128}, {8, 8, 64}, {99, 100, 128},
		// There are none.
		{1, 0, 0}, {0, 0, 0}, {0, -1, 0}, {-1, 0, 0}, {2, 1, 0}, {8, 7, 0}, {1, -1, 0}, {-5, -5, 0}, {100, 99, 0},
		// No attempt is below 1.
		{0, 1, 1}, {-1, 1, 1}, {-1, 3, 7}, {-100, 7, 127}, {math.MinInt, 1, 1}, {math.MinInt, 8, 191}, {math.MinInt, 0, 0}, {math.MinInt, math.MinInt, 0},
		// The last one that counts is a million.
		{1, million, 127 + (million-7)*64}, {1, million + 1, 127 + (million-7)*64}, {1, million - 1, 127 + (million-8)*64}, {1, math.MaxInt, 127 + (million-7)*64}, {math.MinInt, math.MaxInt, 127 + (million-7)*64},
		{million, million, 64}, {million - 1, million, 128}, {million - 1, million + 1, 128}, {million, million + 1, 64}, {million, math.MaxInt, 64},
		{million + 1, million + 1, 0}, {million + 1, million + 2, 0}, {million + 1, math.MaxInt, 0}, {math.MaxInt, math.MaxInt, 0}, {math.MaxInt, million, 0}, {math.MaxInt, 1, 0}, {math.MaxInt, math.MinInt, 0}, {1, math.MinInt, 0},
	} {
		wantSum(t, c.from, c.to, c.want)
	}
}

func TestSumByTheModel(t *testing.T) {
	l := modelSums()
	for from := -20; from <= 300; from++ {
		for to := -20; to <= 300; to++ {
			wantSum(t, from, to, modelSum(l, from, to))
		}
	}
	for _, from := range edges {
		for _, to := range edges {
			wantSum(t, from, to, modelSum(l, from, to))
		}
	}
	source := rand.New(rand.NewSource(132))
	for range 20000 {
		from, to := source.Intn(million+2000)-1000, source.Intn(million+2000)-1000
		wantSum(t, from, to, modelSum(l, from, to))
	}
}

func TestSumOfOneAttempt(t *testing.T) {
	for n := 1; n <= 300; n++ {
		wantSum(t, n, n, retry.Delay(n))
	}
	for _, n := range edges {
		if 1 <= n && n <= million {
			wantSum(t, n, n, retry.Delay(n))
		} else {
			wantSum(t, n, n, 0)
		}
	}
}

func TestSumsOfPartsThatJoin(t *testing.T) {
	for from := -3; from <= 20; from++ {
		for middle := from; middle <= 20; middle++ {
			for to := middle; to <= 20; to++ {
				wantSum(t, from, to, retry.Sum(from, middle)+retry.Sum(middle+1, to))
			}
		}
	}
	source := rand.New(rand.NewSource(2))
	for range 2000 {
		middle := source.Intn(million + 1000)
		wantSum(t, 1, million, retry.Sum(1, middle)+retry.Sum(middle+1, million))
	}
}

func TestWithinIsWrittenOut(t *testing.T) {
	for _, c := range []struct {
		times int
		each  int64
		want  int64
	}{
		{0, 1, 0}, {0, 16, 0}, {-1, 1, 0}, {-1, 16, 0}, {-8, million, 0}, {math.MinInt, 1, 0}, {math.MinInt, math.MaxInt64, 0}, {math.MinInt, math.MinInt64, 0}, {0, math.MaxInt64, 0}, {0, math.MinInt64, 0},
		{1, 1, 1}, {2, 1, 3}, {3, 1, 7}, {4, 1, 15}, {5, 1, 31}, {6, 1, 63}, {7, 1, 127}, {8, 1, 191}, {9, 1, 255},
		{1, 2, 2}, {1, 16, 16}, {2, 16, 33}, {3, 5, 19}, {3, 16, 52}, {4, 16, 75}, {5, 16, 106}, {6, 16, 153}, {7, 16, 232}, {8, 16, 311}, {9, 16, 390},
		// Each below 1 counts as 1.
		{1, 0, 1}, {7, 0, 127}, {7, -1, 127}, {8, -16, 191}, {7, math.MinInt64, 127}, {7, math.MinInt64 + 1, 127},
		// Times and each above a million count as a million.
		{1, million - 1, million - 1}, {1, million, million}, {1, million + 1, million}, {1, math.MaxInt64, million}, {7, million, 127 + 7*(million-1)}, {7, million + 1, 127 + 7*(million-1)}, {7, math.MaxInt64, 127 + 7*(million-1)},
		{million - 1, 1, 127 + (million-8)*64}, {million, 1, 127 + (million-7)*64}, {million + 1, 1, 127 + (million-7)*64}, {math.MaxInt, 1, 127 + (million-7)*64}, {math.MaxInt, math.MinInt64, 127 + (million-7)*64},
		{million, million, 127 + (million-7)*64 + million*(million-1)}, {million + 1, million + 1, 127 + (million-7)*64 + million*(million-1)}, {math.MaxInt, math.MaxInt64, 127 + (million-7)*64 + million*(million-1)},
	} {
		wantWithin(t, c.times, c.each, c.want)
	}
}

func TestWithinByTheModel(t *testing.T) {
	l := modelSums()
	for times := -20; times <= 100; times++ {
		for each := int64(-20); each <= 100; each++ {
			wantWithin(t, times, each, modelWithin(l, times, each))
		}
	}
	for _, times := range edges {
		for _, each := range edges {
			wantWithin(t, times, int64(each), modelWithin(l, times, int64(each)))
		}
	}
	source := rand.New(rand.NewSource(1322))
	for range 20000 {
		times, each := source.Intn(million+2000)-1000, source.Int63n(million+2000)-1000
		wantWithin(t, times, each, modelWithin(l, times, each))
	}
}

// attempts are the times at which a message is tried whose attempts all fail, up to so many attempts and up to a time. It is posted at a time, and runs reports whether the dispatcher runs in a tick.
func attempts(posted, until int64, most int, runs func(now int64) bool) []int64 {
	var l []int64
	due := posted
	for now := posted; now <= until && len(l) < most; now++ {
		if runs(now) && due <= now {
			l = append(l, now)
			due = retry.Next(now, len(l))
		}
	}
	return l
}

// wantWithinOf asks that the attempts behind 1, 2, and so on failed ones are made within what Within says. It returns behind how many it took as long.
func wantWithinOf(t *testing.T, what string, l []int64, each int64) int {
	t.Helper()
	reached := 0
	for i := 1; i < len(l); i++ {
		took, within := l[i]-l[0], retry.Within(i, each)
		if took > within {
			t.Errorf("%s: the attempt behind %d failed ones is made after %d ticks, but Within is %d", what, i, took, within)
		}
		if took == within {
			reached++
		}
	}
	return reached
}

func TestDispatcherThatRunsOnceEverySoManyTicks(t *testing.T) {
	for each := int64(1); each <= 150; each++ {
		for _, phase := range []int64{0, 1, each / 2, each - 1} {
			l := attempts(0, 1<<20, 12, func(now int64) bool {
				return now%each == phase%each
			})
			what := fmt.Sprintf("once every %d ticks, from %d on", each, phase)
			wantNumber(t, what+": attempts", int64(len(l)), 12)
			reached := wantWithinOf(t, what, l, each)
			// One failed attempt takes as long as that, and with a run in every tick all do.
			wantTruth(t, what+": as long as Within says", reached >= 1 && (each > 1 || reached == 11), true)
		}
	}
}

// A dispatcher that may run more often makes its attempts within the same time.
func TestDispatcherThatRunsAtLeastOnceInSoManyTicks(t *testing.T) {
	for seed := range int64(300) {
		source := rand.New(rand.NewSource(seed))
		each := 1 + source.Int63n(100)
		posted, run := source.Int63n(1<<30), int64(0)
		l := attempts(posted, posted+1<<20, 12, func(now int64) bool {
			if now < run {
				return false
			}
			run = now + 1 + source.Int63n(each)
			return true
		})
		what := fmt.Sprintf("seed %d, at least once in %d ticks", seed, each)
		wantNumber(t, what+": attempts", int64(len(l)), 12)
		wantWithinOf(t, what, l, each)
	}
}

func TestTriesIsWrittenOut(t *testing.T) {
	for _, c := range []struct {
		ticks int64
		want  int
	}{
		{math.MinInt64, 0}, {math.MinInt64 + 1, 0}, {-127, 0}, {-2, 0}, {-1, 0},
		{0, 1}, {1, 2}, {2, 2}, {3, 3}, {4, 3}, {6, 3}, {7, 4}, {8, 4}, {14, 4}, {15, 5}, {16, 5}, {30, 5}, {31, 6}, {32, 6}, {62, 6}, {63, 7}, {64, 7}, {126, 7}, {127, 8}, {128, 8},
		// The eighth attempt is the last one.
		{190, 8}, {191, 8}, {192, 8}, {255, 8}, {1000, 8}, {1 << 32, 8}, {maxTime, 8}, {math.MaxInt64 - 1, 8}, {math.MaxInt64, 8},
	} {
		wantTries(t, c.ticks, c.want)
	}
}

// living is how often a message is tried from its first attempt until some ticks later, if the dispatcher runs in every tick and gives it up when Dead says so.
func living(first, ticks int64) int {
	tried := 0
	for due, now := first, first; now <= first+ticks && !retry.Dead(tried); now++ {
		if due <= now {
			tried++
			due = retry.Next(now, tried)
		}
	}
	return tried
}

func TestTriesOfAMessageWhoseAttemptsAllFail(t *testing.T) {
	for _, first := range []int64{0, 1, 1000, maxTime - 2000} {
		for ticks := int64(-3); ticks <= 700; ticks++ {
			wantTries(t, ticks, living(first, ticks))
		}
	}
}

// P13.3: consequences.

func TestDelaysNeverDecrease(t *testing.T) {
	for attempt := -100; attempt <= 5000; attempt++ {
		wantTruth(t, fmt.Sprintf("Delay(%d) is at most Delay(%d)", attempt-1, attempt), retry.Delay(attempt-1) <= retry.Delay(attempt), true)
	}
	for i := 1; i < len(edges); i++ {
		wantTruth(t, fmt.Sprintf("Delay(%d) is at most Delay(%d)", edges[i-1], edges[i]), retry.Delay(edges[i-1]) <= retry.Delay(edges[i]), true)
	}
}

func TestDelaysOfAMessage(t *testing.T) {
	wantSum(t, 1, 7, 127)
	sum, attempt := int64(0), 1
	for ; !retry.Dead(attempt); attempt++ {
		sum += retry.Delay(attempt)
		wantTruth(t, fmt.Sprintf("delays of %d attempts: %d", attempt, sum), sum <= retry.Sum(1, 7), true)
		wantSum(t, 1, attempt, sum)
	}
	wantNumber(t, "the last attempt", int64(attempt), 8)
	wantNumber(t, "delays of a message", sum, 127)
	// From the first of its attempts to the last one as many ticks pass.
	l := attempts(5, 1<<20, 8, func(int64) bool { return true })
	wantNumber(t, "attempts", int64(len(l)), 8)
	wantNumber(t, "ticks of a message", l[len(l)-1]-l[0], 127)
}

// P1 and R4: all calls end for whatever they are given, and equal calls return equal results.
func TestEqualCallsOfAnything(t *testing.T) {
	calls := func() string {
		var l []int64
		for _, a := range edges {
			l = append(l, retry.Delay(a), int64(retry.Tries(int64(a))))
			for _, b := range edges {
				l = append(l, retry.Sum(a, b), retry.Within(a, int64(b)), retry.Next(int64(b), a))
			}
		}
		for _, now := range times {
			l = append(l, int64(retry.Tries(now)), retry.Next(now, 1), retry.Within(8, now))
		}
		return fmt.Sprint(l)
	}
	first := calls()
	for range 5 {
		wantTruth(t, "equal calls", calls() == first, true)
	}
}
