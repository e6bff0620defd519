package outbox_test

import (
	"fmt"
	"math"
	"math/rand"
	"slices"
	"sort"
	"strings"
	"testing"

	"homecoming/address"
	"homecoming/api"
	"homecoming/outbox"
	"homecoming/retry"
)

// maxTime is the last time there is, and maxID the greatest ID, as the document has them.
const (
	maxTime = int64(1) << 40
	maxID   = uint64(1) << 40
)

// wrongTimes are times that there are not.
var wrongTimes = []int64{math.MinInt64, math.MinInt64 + 1, -maxTime, -1 << 32, -64, -2, -1, maxTime + 1, maxTime + 2, 2 * maxTime, math.MaxInt64 - 64, math.MaxInt64 - 1, math.MaxInt64}

// rightTimes are times.
var rightTimes = []int64{0, 1, 2, 63, 64, 65, 1<<31 - 1, 1 << 31, 1 << 32, maxTime - 64, maxTime - 1, maxTime}

// wrongIDs are IDs that no message has, and rightIDs some that one may have.
var (
	wrongIDs = []uint64{0, maxID + 1, maxID + 2, 2 * maxID, 1 << 63, math.MaxUint64 - 1, math.MaxUint64}
	rightIDs = []uint64{1, 2, 40, 1<<31 - 1, 1 << 31, 1 << 32, 1<<32 + 1, maxID - 1, maxID}
)

// wrongTos are strings that are no address, and rightTos some that are.
var (
	wrongTos = []string{"", " ", "here", "a@b", "@b.cd", "a@", "A@b.cd", "a@b.cd ", " a@b.cd", "a+x@b.cd", "a@b..cd", "+1234567", "12345678", "+1234567890123456", "+02345678", "+1234 5678", "a@b.cd\x00", strings.Repeat("a", 36) + "@b.cd", "\xff@b.cd"}
	rightTos = []string{"a@b.cd", "ann.b@example.org", "+12345678", "+123456789012345", "a@1.2", strings.Repeat("a", 35) + "@b.cd"}
)

// wrongBodies are texts of no message, and rightBodies some that one may have.
var (
	wrongBodies = []string{"", strings.Repeat("x", 81), strings.Repeat("x", 82), strings.Repeat("\u00e4", 41), strings.Repeat("x", 1<<20)}
	rightBodies = []string{"x", "\x00", "\n", " ", "\xff", "\u00e4", "hi there", strings.Repeat("x", 79), strings.Repeat("x", 80), strings.Repeat("\u00e4", 40), strings.Repeat("\xff", 80)}
)

// good is a message that is valid, with an ID.
func good(id uint64) api.Message {
	return api.Message{ID: id, To: "a@b.cd", Body: "hi"}
}

// tried is a message that is valid, after so many attempts.
func tried(id uint64, attempts int, due int64) api.Message {
	return api.Message{ID: id, To: "a@b.cd", Body: "hi", Attempts: attempts, Due: due, Dead: attempts == 8}
}

// rows is n messages that are valid, with an ID for each even number from 2 on.
func rows(n int) []api.Message {
	l := make([]api.Message, 0, n)
	for i := range n {
		l = append(l, api.Message{ID: uint64(2*i + 2), To: "a@b.cd", Body: fmt.Sprint("text ", i), Attempts: i % 8, Due: int64(100 - i%7)})
	}
	return l
}

// with is l with m in place of the one at i.
func with(l []api.Message, i int, m api.Message) []api.Message {
	l = slices.Clone(l)
	l[i] = m
	return l
}

// without is l without the one at i.
func without(l []api.Message, i int) []api.Message {
	return slices.Delete(slices.Clone(l), i, i+1)
}

// lend is a copy of l with room behind it, and a function that asks that nothing of it was changed, and that the list that was returned has none of its room.
func lend(t *testing.T, what string, l []api.Message) ([]api.Message, func(returned []api.Message)) {
	t.Helper()
	all := append(slices.Clone(l), good(7), good(8), good(9))
	before := slices.Clone(all)
	lent := all[:len(l)]
	if l == nil {
		lent = nil
	}
	return lent, func(returned []api.Message) {
		t.Helper()
		if !slices.Equal(all, before) {
			t.Errorf("%s modified its list: %+v, was %+v", what, all, before)
		}
		was := slices.Clone(returned)
		for i := range all {
			all[i] = api.Message{To: "changed later", Due: int64(i)}
		}
		if !slices.Equal(returned, was) {
			t.Errorf("%s returned a part of its list", what)
		}
		copy(all, before)
		for i := range returned {
			returned[i] = api.Message{To: "changed", Due: int64(i)}
		}
		if _ = append(returned, good(1), good(2)); !slices.Equal(all, before) {
			t.Errorf("%s returned a part of its list", what)
		}
	}
}

func wantNumber(t *testing.T, what string, got, want int64) {
	t.Helper()
	if got != want {
		t.Errorf("%s: %d, want %d", what, got, want)
	}
}

func wantTruth(t *testing.T, what string, got, want bool) {
	t.Helper()
	if got != want {
		t.Errorf("%s: %v, want %v", what, got, want)
	}
}

func wantList(t *testing.T, what string, got, want []api.Message) {
	t.Helper()
	if !slices.Equal(got, want) {
		t.Errorf("%s: %.300q, want %.300q", what, fmt.Sprintf("%+v", got), fmt.Sprintf("%+v", want))
	}
}

// brief is some words on a list.
func brief(l []api.Message) string {
	return fmt.Sprintf("%d messages, %.200q", len(l), fmt.Sprintf("%+v", l[:min(len(l), 5)]))
}

func wantCheck(t *testing.T, what string, l []api.Message, want bool) {
	t.Helper()
	what = "Check of " + what
	lent, same := lend(t, what, l)
	wantTruth(t, what, outbox.Check(lent), want)
	same(nil)
}

// wantRight asks for what Right answers, and Check of a list with this message, too.
func wantRight(t *testing.T, m api.Message, want bool) {
	t.Helper()
	what := fmt.Sprintf("%.200q", fmt.Sprintf("%+v", m))
	wantTruth(t, "Right of "+what, outbox.Right(m), want)
	wantCheck(t, what, []api.Message{m}, want)
}

func wantPost(t *testing.T, l []api.Message, m api.Message, now int64, want []api.Message, code api.Errno) {
	t.Helper()
	what := fmt.Sprintf("Post(%s, %.200q, %d)", brief(l), fmt.Sprintf("%+v", m), now)
	lent, same := lend(t, what, l)
	got, err := outbox.Post(lent, m, now)
	wantNumber(t, what, int64(err), int64(code))
	wantList(t, what, got, want)
	same(got)
}

func wantTaken(t *testing.T, l []api.Message, id uint64, want []api.Message, code api.Errno) {
	t.Helper()
	what := fmt.Sprintf("Taken(%s, %d)", brief(l), id)
	lent, same := lend(t, what, l)
	got, err := outbox.Taken(lent, id)
	wantNumber(t, what, int64(err), int64(code))
	wantList(t, what, got, want)
	same(got)
}

func wantFailed(t *testing.T, l []api.Message, id uint64, now int64, want []api.Message, code api.Errno) {
	t.Helper()
	what := fmt.Sprintf("Failed(%s, %d, %d)", brief(l), id, now)
	lent, same := lend(t, what, l)
	got, err := outbox.Failed(lent, id, now)
	wantNumber(t, what, int64(err), int64(code))
	wantList(t, what, got, want)
	same(got)
}

// wantNone asks that neither Taken nor Failed finds a message with an ID.
func wantNone(t *testing.T, l []api.Message, id uint64) {
	t.Helper()
	wantTaken(t, l, id, l, api.ErrNone)
	for _, now := range []int64{0, 9, maxTime, -1, math.MinInt64, math.MaxInt64} {
		wantFailed(t, l, id, now, l, api.ErrNone)
	}
}

func wantDue(t *testing.T, l []api.Message, now int64, want []api.Message) {
	t.Helper()
	what := fmt.Sprintf("Due(%s, %d)", brief(l), now)
	lent, same := lend(t, what, l)
	got := outbox.Due(lent, now)
	wantList(t, what, got, want)
	same(got)
}

func wantDead(t *testing.T, l, want []api.Message) {
	t.Helper()
	what := "Dead of " + brief(l)
	lent, same := lend(t, what, l)
	got := outbox.Dead(lent)
	wantList(t, what, got, want)
	same(got)
}

func wantForget(t *testing.T, l, want []api.Message) {
	t.Helper()
	what := "Forget of " + brief(l)
	lent, same := lend(t, what, l)
	got := outbox.Forget(lent)
	wantList(t, what, got, want)
	same(got)
}

func wantNext(t *testing.T, l []api.Message, want int64, found bool) {
	t.Helper()
	what := "Next of " + brief(l)
	lent, same := lend(t, what, l)
	got, ok := outbox.Next(lent)
	wantTruth(t, what, ok, found)
	wantNumber(t, what, got, want)
	same(nil)
}

func wantRoom(t *testing.T, l []api.Message, want int) {
	t.Helper()
	what := "Room of " + brief(l)
	lent, same := lend(t, what, l)
	wantNumber(t, what, int64(outbox.Room(lent)), int64(want))
	same(nil)
}

// P14.1: Right and Check.

func TestRightOfIDs(t *testing.T) {
	for _, id := range rightIDs {
		wantRight(t, good(id), true)
	}
	for _, id := range wrongIDs {
		wantRight(t, good(id), false)
	}
}

func TestRightOfTos(t *testing.T) {
	for _, to := range rightTos {
		wantRight(t, api.Message{ID: 1, To: to, Body: "hi"}, true)
	}
	for _, to := range wrongTos {
		wantRight(t, api.Message{ID: 1, To: to, Body: "hi"}, false)
	}
}

func TestRightOfBodies(t *testing.T) {
	for _, body := range rightBodies {
		wantRight(t, api.Message{ID: 1, To: "a@b.cd", Body: body}, true)
	}
	for _, body := range wrongBodies {
		wantRight(t, api.Message{ID: 1, To: "a@b.cd", Body: body}, false)
	}
	for n := range 200 {
		wantRight(t, api.Message{ID: 1, To: "a@b.cd", Body: strings.Repeat("x", n)}, n >= 1 && n <= 80)
	}
}

func TestRightOfAttempts(t *testing.T) {
	for attempts := -20; attempts <= 30; attempts++ {
		for _, due := range append(rightTimes, wrongTimes...) {
			in := due >= 0 && due <= maxTime
			wantRight(t, api.Message{ID: 1, To: "a@b.cd", Body: "hi", Attempts: attempts, Due: due}, in && attempts >= 0 && attempts <= 7)
			wantRight(t, api.Message{ID: 1, To: "a@b.cd", Body: "hi", Attempts: attempts, Due: due, Dead: true}, in && attempts == 8)
		}
	}
	for _, attempts := range []int{math.MinInt, math.MinInt + 8, -1 << 32, -256, 256, 256 + 8, 1<<32 + 8, math.MaxInt - 1, math.MaxInt} {
		for _, dead := range []bool{false, true} {
			wantRight(t, api.Message{ID: 1, To: "a@b.cd", Body: "hi", Attempts: attempts, Dead: dead}, false)
		}
	}
}

func TestRightOfDues(t *testing.T) {
	for _, due := range rightTimes {
		for attempts := range 9 {
			wantRight(t, tried(1, attempts, due), true)
		}
	}
	for _, due := range wrongTimes {
		for attempts := range 9 {
			wantRight(t, tried(1, attempts, due), false)
		}
	}
	wantRight(t, api.Message{}, false)
}

// One part that is wrong is enough, whatever the others are.
func TestRightOfAllParts(t *testing.T) {
	for _, id := range []uint64{0, 1, maxID, maxID + 1} {
		for _, to := range []string{"", "a@b.cd", "+12345678", "here"} {
			for _, body := range []string{"", "x", strings.Repeat("x", 80), strings.Repeat("x", 81)} {
				for attempts := -1; attempts <= 9; attempts++ {
					for _, due := range []int64{-1, 0, maxTime, maxTime + 1} {
						for _, dead := range []bool{false, true} {
							m := api.Message{ID: id, To: to, Body: body, Attempts: attempts, Due: due, Dead: dead}
							wantTruth(t, fmt.Sprintf("Right of %.200q", fmt.Sprintf("%+v", m)), outbox.Right(m), modelRight(m))
						}
					}
				}
			}
		}
	}
}

func TestCheckOfSizes(t *testing.T) {
	wantCheck(t, "a nil list", nil, true)
	wantCheck(t, "an empty list", []api.Message{}, true)
	for n := range 100 {
		wantCheck(t, fmt.Sprint(n, " messages"), rows(n), n <= 40)
	}
	wantCheck(t, "many messages", rows(100000), false)
}

func TestCheckOfIDs(t *testing.T) {
	for _, ids := range [][]uint64{{1}, {maxID}, {1, 2}, {1, maxID}, {maxID - 1, maxID}, {1, 2, 3}, {3, 7, 8, 1 << 31, 1<<31 + 1, 1 << 32, 1<<32 + 1, maxID}} {
		var l, back []api.Message
		for _, id := range ids {
			l = append(l, good(id))
			back = append([]api.Message{good(id)}, back...)
			wantCheck(t, fmt.Sprint(id, " twice"), []api.Message{good(id), good(id)}, false)
			wantCheck(t, fmt.Sprint(id, " behind 0"), []api.Message{good(0), good(id)}, false)
			wantCheck(t, fmt.Sprint(id, " ahead of one that is too great"), []api.Message{good(id), good(maxID + 1)}, false)
		}
		wantCheck(t, fmt.Sprint(ids), l, true)
		wantCheck(t, fmt.Sprint(ids, " backwards"), back, len(ids) == 1)
	}
}

func TestCheckOfIDsAtEachPlace(t *testing.T) {
	for _, n := range []int{1, 2, 3, 39, 40} {
		for i := range n {
			for j := range n {
				l := rows(n)
				l[i].ID = l[j].ID
				wantCheck(t, fmt.Sprint(n, " messages, with one ID at ", i, " and ", j), l, i == j)
				l = rows(n)
				l[i], l[j] = l[j], l[i]
				wantCheck(t, fmt.Sprint(n, " messages, exchanged at ", i, " and ", j), l, i == j)
			}
		}
	}
}

func TestCheckOfAPartAtEachPlace(t *testing.T) {
	wrong := []func(m *api.Message){
		func(m *api.Message) { m.ID = 0 },
		func(m *api.Message) { m.ID = maxID + 1 },
		func(m *api.Message) { m.To = "here" },
		func(m *api.Message) { m.Body = "" },
		func(m *api.Message) { m.Body = strings.Repeat("x", 81) },
		func(m *api.Message) { m.Attempts = -1 },
		func(m *api.Message) { m.Attempts = 8 },
		func(m *api.Message) { m.Attempts, m.Dead = 9, true },
		func(m *api.Message) { m.Due = -1 },
		func(m *api.Message) { m.Due = maxTime + 1 },
		func(m *api.Message) { m.Dead = true },
	}
	right := []func(m *api.Message){
		func(m *api.Message) { m.To, m.Body = "+12345678", strings.Repeat("x", 80) },
		func(m *api.Message) { m.Attempts, m.Dead = 8, true },
		func(m *api.Message) { m.Attempts, m.Due = 7, 0 },
		func(m *api.Message) { m.Attempts, m.Due = 0, maxTime },
	}
	for _, n := range []int{1, 2, 3, 39, 40} {
		for i := range n {
			for j, change := range wrong {
				l := rows(n)
				change(&l[i])
				wantCheck(t, fmt.Sprintf("%d messages, with what is wrong (%d) at %d", n, j, i), l, false)
			}
			for j, change := range right {
				l := rows(n)
				change(&l[i])
				wantCheck(t, fmt.Sprintf("%d messages, with what is right (%d) at %d", n, j, i), l, true)
			}
		}
	}
}

// P14.1: Post.

func TestPostAppends(t *testing.T) {
	for n := range 40 {
		l := rows(n)
		for _, now := range rightTimes {
			for _, id := range []uint64{uint64(2*n + 1), uint64(2*n + 2), uint64(2*n + 100), maxID} {
				m := api.Message{ID: id, To: "+12345678", Body: "123456"}
				want := append(slices.Clone(l), api.Message{ID: id, To: "+12345678", Body: "123456", Due: now})
				wantPost(t, l, m, now, want, api.OK)
				wantCheck(t, "what was posted into", want, true)
			}
		}
	}
	wantPost(t, nil, good(1), 0, []api.Message{good(1)}, api.OK)
	wantPost(t, []api.Message{}, good(maxID), maxTime, []api.Message{tried(maxID, 0, maxTime)}, api.OK)
}

// Attempts, Due and Dead of what is posted are not looked at.
func TestPostMakesANewMessage(t *testing.T) {
	for _, attempts := range []int{math.MinInt, -1, 0, 1, 7, 8, 9, math.MaxInt} {
		for _, due := range append(rightTimes, wrongTimes...) {
			for _, dead := range []bool{false, true} {
				m := api.Message{ID: 5, To: "a@b.cd", Body: "hi", Attempts: attempts, Due: due, Dead: dead}
				wantPost(t, rows(2), m, 30, append(rows(2), tried(5, 0, 30)), api.OK)
				wantPost(t, rows(2), m, -1, rows(2), api.ErrArg)
				m.ID = 4
				wantPost(t, rows(2), m, 30, rows(2), api.ErrThere)
				m.ID = 99
				wantPost(t, rows(40), m, 30, rows(40), api.ErrFull)
			}
		}
	}
}

func TestPostOfWhatIsNotValid(t *testing.T) {
	var wrong []api.Message
	for _, id := range wrongIDs {
		wrong = append(wrong, good(id))
	}
	for _, to := range wrongTos {
		wrong = append(wrong, api.Message{ID: 99, To: to, Body: "hi"}, api.Message{ID: 1, To: to, Body: "hi"})
	}
	for _, body := range wrongBodies {
		wrong = append(wrong, api.Message{ID: 99, To: "a@b.cd", Body: body}, api.Message{ID: 1, To: "a@b.cd", Body: body})
	}
	for _, n := range []int{0, 1, 2, 39, 40, 41} {
		// ErrArg is told whether or not there is room, or another message with the ID.
		for _, m := range append(wrong, api.Message{}) {
			wantPost(t, rows(n), m, 0, rows(n), api.ErrArg)
		}
		for _, now := range wrongTimes {
			wantPost(t, rows(n), good(99), now, rows(n), api.ErrArg)
			wantPost(t, rows(n), good(2), now, rows(n), api.ErrArg)
		}
	}
	for _, to := range rightTos {
		for _, body := range rightBodies {
			m := api.Message{ID: 9, To: to, Body: body}
			wantPost(t, rows(3), m, 0, append(rows(3), m), api.OK)
		}
	}
}

func TestPostErrors(t *testing.T) {
	for n := range 60 {
		l, last := rows(n), uint64(2*n)
		for id := uint64(1); id < last+4; id++ {
			switch {
			case id <= last:
				// ErrThere is told also if there is no room.
				wantPost(t, l, good(id), 7, l, api.ErrThere)
			case n >= 40:
				wantPost(t, l, good(id), 7, l, api.ErrFull)
			default:
				wantPost(t, l, good(id), 7, append(slices.Clone(l), tried(id, 0, 7)), api.OK)
			}
		}
	}
	wantPost(t, rows(1000), good(2001), 7, rows(1000), api.ErrFull)
	wantPost(t, rows(1000), good(2000), 7, rows(1000), api.ErrThere)
}

// It is the last message whose ID counts, whatever stands ahead of it, and whether or not it is valid.
func TestPostIntoWhatIsNotValid(t *testing.T) {
	for _, last := range append(rightIDs, wrongIDs...) {
		for _, id := range rightIDs {
			for _, ahead := range append([]uint64{id}, last, maxID, 1) {
				l := []api.Message{good(ahead), {ID: last, Attempts: -3, Due: -5, Dead: true}}
				if id <= last {
					wantPost(t, l, good(id), 7, l, api.ErrThere)
				} else {
					wantPost(t, l, good(id), 7, append(slices.Clone(l), tried(id, 0, 7)), api.OK)
				}
			}
		}
	}
	full := slices.Repeat([]api.Message{{}}, 40)
	wantPost(t, full, good(1), 7, full, api.ErrFull)
	wantPost(t, full[1:], good(1), 7, append(slices.Clone(full[1:]), tried(1, 0, 7)), api.OK)
}

// Messages that were given up take room, and are not removed.
func TestPostKeepsWhatWasGivenUp(t *testing.T) {
	var l []api.Message
	for i := range 40 {
		m := tried(uint64(i+1), 8, 5)
		want, code := append(slices.Clone(l), tried(uint64(i+1), 0, 9)), api.OK
		wantPost(t, l, m, 9, want, code)
		l = append(l, m)
	}
	wantPost(t, l, good(41), 9, l, api.ErrFull)
	wantPost(t, l, good(40), 9, l, api.ErrThere)
}

// P14.2: Due.

func TestDueAtEachTime(t *testing.T) {
	for _, due := range append(rightTimes, wrongTimes...) {
		for attempts := range 8 {
			l := []api.Message{tried(3, attempts, due)}
			wantDue(t, l, due, l)
			if due > math.MinInt64 {
				wantDue(t, l, due-1, nil)
				wantDue(t, l, math.MinInt64, nil)
			}
			if due < math.MaxInt64 {
				wantDue(t, l, due+1, l)
			}
			wantDue(t, l, math.MaxInt64, l)
		}
		l := []api.Message{tried(3, 8, due)}
		for _, now := range append(rightTimes, wrongTimes...) {
			wantDue(t, l, now, nil)
		}
	}
}

func TestDueKeepsTheOrder(t *testing.T) {
	l := []api.Message{tried(1, 0, 10), tried(2, 1, 5), tried(3, 8, 1), tried(4, 7, 12), tried(5, 0, 5), tried(6, 2, 11)}
	for _, c := range []struct {
		now  int64
		want []int
	}{
		{-1, nil}, {0, nil}, {1, nil}, {4, nil}, {5, []int{1, 4}}, {6, []int{1, 4}}, {9, []int{1, 4}}, {10, []int{0, 1, 4}}, {11, []int{0, 1, 4, 5}}, {12, []int{0, 1, 3, 4, 5}}, {13, []int{0, 1, 3, 4, 5}}, {maxTime, []int{0, 1, 3, 4, 5}},
	} {
		var want []api.Message
		for _, i := range c.want {
			want = append(want, l[i])
		}
		wantDue(t, l, c.now, want)
	}
	wantDue(t, nil, 0, nil)
	wantDue(t, []api.Message{}, maxTime, nil)
}

// It is Dead that counts, whatever the number of attempts is.
func TestDueOfWhatIsNotValid(t *testing.T) {
	for _, attempts := range []int{math.MinInt, -1, 0, 7, 8, 9, math.MaxInt} {
		alive, dead := api.Message{Attempts: attempts, Due: 4}, api.Message{Attempts: attempts, Due: 4, Dead: true}
		l := []api.Message{alive, dead, dead, alive, alive}
		wantDue(t, l, 3, nil)
		wantDue(t, l, 4, []api.Message{alive, alive, alive})
		wantDue(t, l, math.MaxInt64, []api.Message{alive, alive, alive})
		wantDead(t, l, []api.Message{dead, dead})
		wantForget(t, l, []api.Message{alive, alive, alive})
		wantNext(t, l, 4, true)
	}
	wantDue(t, rows(100), 97, slices.DeleteFunc(rows(100), func(m api.Message) bool { return m.Due > 97 }))
	wantDue(t, rows(100), 100, rows(100))
}

// P14.2: Taken and Failed.

func TestTakenAtEachPlace(t *testing.T) {
	for _, n := range []int{1, 2, 3, 39, 40, 41, 100} {
		l := rows(n)
		for i := range n {
			wantTaken(t, l, l[i].ID, without(l, i), api.OK)
		}
	}
}

func TestFailedAtEachPlace(t *testing.T) {
	for _, n := range []int{1, 2, 3, 39, 40, 41, 100} {
		for i := range n {
			l := rows(n)
			l[i].Attempts = 3
			m := l[i]
			m.Attempts, m.Due = 4, 58
			wantFailed(t, l, m.ID, 50, with(l, i, m), api.OK)
		}
	}
}

func TestTakenAndFailedFindNone(t *testing.T) {
	wantNone(t, nil, 1)
	wantNone(t, nil, 0)
	wantNone(t, []api.Message{}, 1)
	for _, n := range []int{1, 2, 3, 39, 40, 41} {
		l := rows(n)
		for i := range n + 1 {
			wantNone(t, l, uint64(2*i+1))
		}
		for _, id := range append(wrongIDs, maxID, uint64(2*n+2), 1<<32+2, 1<<33+4) {
			wantNone(t, l, id)
		}
		for i := range l {
			dead := l[i]
			dead.Attempts, dead.Dead = 8, true
			wantNone(t, with(l, i, dead), dead.ID)
			// It is Dead that counts.
			dead.Attempts = 3
			wantNone(t, with(l, i, dead), dead.ID)
		}
	}
}

// Whatever a message looks like, it is found by its ID.
func TestTakenAndFailedOfAnyID(t *testing.T) {
	for _, id := range append(rightIDs, wrongIDs...) {
		l := []api.Message{good(77), {ID: id}, good(78)}
		wantTaken(t, l, id, []api.Message{good(77), good(78)}, api.OK)
		wantFailed(t, l, id, 6, []api.Message{good(77), {ID: id, Attempts: 1, Due: 7}, good(78)}, api.OK)
	}
}

// The first message with an ID counts, also in a list that has two.
func TestTakenAndFailedOfEqualIDs(t *testing.T) {
	alive, other, dead := tried(5, 2, 30), tried(5, 4, 20), tried(5, 8, 10)
	failed := tried(5, 3, 104)
	for _, ahead := range [][]api.Message{nil, {good(1)}, {good(9), tried(8, 8, 1)}} {
		for _, between := range [][]api.Message{nil, {good(2)}, {tried(3, 8, 1), good(2)}} {
			for _, behind := range [][]api.Message{nil, {good(6)}, {good(1), tried(2, 8, 1)}} {
				for _, second := range []api.Message{alive, other, dead} {
					row := func(firsts ...api.Message) []api.Message {
						return slices.Concat(ahead, firsts, between, []api.Message{second}, behind)
					}
					wantTaken(t, row(alive), 5, row(), api.OK)
					wantFailed(t, row(alive), 5, 100, row(failed), api.OK)
					// Where the first one was given up, another one is not looked at.
					wantNone(t, row(dead), 5)
				}
			}
		}
	}
	l := slices.Repeat([]api.Message{alive}, 50)
	wantTaken(t, l, 5, l[1:], api.OK)
	wantFailed(t, l, 5, 100, with(l, 0, failed), api.OK)
}

func TestFailedIsWrittenOut(t *testing.T) {
	for _, c := range []struct {
		attempts int
		now      int64
		due      int64
	}{
		{0, 0, 1}, {1, 0, 2}, {1, 1, 3}, {2, 3, 7}, {3, 7, 15}, {4, 15, 31}, {5, 31, 63}, {6, 63, 127}, {7, 127, 191}, {0, 100, 101}, {7, 100, 164},
		{0, maxTime, maxTime}, {0, maxTime - 1, maxTime}, {0, maxTime - 2, maxTime - 1}, {6, maxTime - 64, maxTime}, {6, maxTime - 65, maxTime - 1}, {6, maxTime - 63, maxTime}, {7, maxTime, maxTime},
		{0, -1, 0}, {7, -1, 0}, {3, -maxTime, 0}, {0, math.MinInt64, 0}, {7, math.MinInt64, 0},
		{0, maxTime + 1, maxTime}, {7, maxTime + 1, maxTime}, {0, math.MaxInt64, maxTime}, {7, math.MaxInt64 - 63, maxTime},
	} {
		for _, due := range append(rightTimes, wrongTimes...) {
			l := []api.Message{tried(2, 5, 3), tried(4, c.attempts, due), tried(6, 1, 9)}
			wantFailed(t, l, 4, c.now, []api.Message{l[0], tried(4, c.attempts+1, c.due), l[2]}, api.OK)
		}
	}
}

// A message that is not valid may have any number of attempts.
func TestFailedOfAnyAttempts(t *testing.T) {
	for _, c := range []struct {
		attempts, after int
		due             int64
		dead            bool
	}{
		{math.MinInt, math.MinInt + 1, 100, false}, {-5, -4, 100, false}, {-2, -1, 100, false}, {-1, 0, 100, false}, {0, 1, 101, false}, {5, 6, 132, false}, {6, 7, 164, false}, {7, 8, 164, true},
		{8, 9, 164, true}, {9, 10, 164, true}, {99, 100, 164, true}, {1 << 32, 1<<32 + 1, 164, true}, {math.MaxInt - 1, math.MaxInt, 164, true}, {math.MaxInt, math.MinInt, 100, false},
	} {
		l := []api.Message{good(2), {ID: 4, To: "here", Attempts: c.attempts, Due: -8}, good(6)}
		want := api.Message{ID: 4, To: "here", Attempts: c.after, Due: c.due, Dead: c.dead}
		wantFailed(t, l, 4, 100, with(l, 1, want), api.OK)
	}
}

// The document's example.
func TestExample(t *testing.T) {
	l := post(t, nil, good(1), 0)
	wantDue(t, l, 0, l)
	l = failed(t, l, 1, 0)
	wantList(t, "after the first failure", l, []api.Message{tried(1, 1, 1)})
	wantDue(t, l, 0, nil)
	wantDue(t, l, 1, l)
	l = failed(t, l, 1, 1)
	wantList(t, "after the second failure", l, []api.Message{tried(1, 2, 3)})
	wantNext(t, l, 3, true)
	wantDue(t, l, 2, nil)
	wantDue(t, l, 3, l)
}

// post is what Post leaves of l, where it is expected to return api.OK.
func post(t *testing.T, l []api.Message, m api.Message, now int64) []api.Message {
	t.Helper()
	l, err := outbox.Post(l, m, now)
	wantNumber(t, fmt.Sprint("Post of ", m.ID, " at ", now), int64(err), 0)
	return l
}

// failed is what Failed leaves of l, where it is expected to return api.OK.
func failed(t *testing.T, l []api.Message, id uint64, now int64) []api.Message {
	t.Helper()
	l, err := outbox.Failed(l, id, now)
	wantNumber(t, fmt.Sprint("Failed of ", id, " at ", now), int64(err), 0)
	return l
}

// taken is what Taken leaves of l, where it is expected to return api.OK.
func taken(t *testing.T, l []api.Message, id uint64) []api.Message {
	t.Helper()
	l, err := outbox.Taken(l, id)
	wantNumber(t, fmt.Sprint("Taken of ", id), int64(err), 0)
	return l
}

// P14.3: Dead, Forget, Next and Room.

func TestDeadAndForgetOfEachPart(t *testing.T) {
	wantDead(t, nil, nil)
	wantDead(t, []api.Message{}, nil)
	wantForget(t, nil, nil)
	wantForget(t, []api.Message{}, nil)
	for n := range 45 {
		for part := range n + 1 {
			l := rows(n)
			var dead, alive []api.Message
			for i := range l {
				// Those that were given up stand anywhere among the others.
				if i*11%n < part {
					l[i].Attempts, l[i].Dead = 8, true
					dead = append(dead, l[i])
				} else {
					alive = append(alive, l[i])
				}
			}
			wantDead(t, l, dead)
			wantForget(t, l, alive)
			wantDue(t, l, maxTime, alive)
			wantDead(t, alive, nil)
			wantForget(t, alive, alive)
			wantDead(t, dead, dead)
			wantForget(t, dead, nil)
			if len(alive) == 0 {
				wantNext(t, l, 0, false)
			}
		}
	}
}

func TestDeadAndForgetOfAllShortLists(t *testing.T) {
	for bits := range 1 << 7 {
		for n := range 8 {
			var l, dead, alive []api.Message
			for i := range n {
				m := tried(uint64(i+1), 8*(bits>>i&1), int64(50-i))
				if l = append(l, m); m.Dead {
					dead = append(dead, m)
				} else {
					alive = append(alive, m)
				}
			}
			wantDead(t, l, dead)
			wantForget(t, l, alive)
			if len(alive) == 0 {
				wantNext(t, l, 0, false)
			} else {
				wantNext(t, l, alive[len(alive)-1].Due, true)
			}
		}
	}
}

func TestNextIsWrittenOut(t *testing.T) {
	wantNext(t, nil, 0, false)
	wantNext(t, []api.Message{}, 0, false)
	for _, due := range append(rightTimes, wrongTimes...) {
		wantNext(t, []api.Message{tried(1, 0, due)}, due, true)
		wantNext(t, []api.Message{tried(1, 7, due)}, due, true)
		wantNext(t, []api.Message{tried(1, 8, due)}, 0, false)
		wantNext(t, []api.Message{tried(1, 8, 0), tried(2, 3, due)}, due, true)
		wantNext(t, []api.Message{tried(1, 3, due), tried(2, 8, -7)}, due, true)
		for _, other := range append(rightTimes, wrongTimes...) {
			l := []api.Message{tried(1, 3, due), tried(2, 8, math.MinInt64), tried(3, 0, other), tried(4, 8, 0)}
			wantNext(t, l, min(due, other), true)
		}
	}
}

func TestNextAtEachPlace(t *testing.T) {
	for _, n := range []int{1, 2, 3, 39, 40, 41, 100} {
		for i := range n {
			l := rows(n)
			l[i].Due = 4
			wantNext(t, l, 4, true)
			l[i].Due = 0
			wantNext(t, l, 0, true)
			l[i].Due = -4
			wantNext(t, l, -4, true)
		}
	}
}

// At the time that Next tells something is due, and nothing earlier.
func TestNextIsWhenSomethingIsDue(t *testing.T) {
	source := rand.New(rand.NewSource(1414))
	for range 3000 {
		l := anyList(source)
		now, ok := outbox.Next(l)
		wantTruth(t, "one that was not given up", ok, len(outbox.Forget(l)) > 0)
		if ok {
			wantTruth(t, "something due", len(outbox.Due(l, now)) > 0, true)
			wantDue(t, l, now-1, nil)
		}
	}
}

func TestRoom(t *testing.T) {
	wantRoom(t, nil, 40)
	wantRoom(t, []api.Message{}, 40)
	for n := range 100 {
		want := 0
		for i := n; i < 40; i++ {
			want++
		}
		wantRoom(t, rows(n), want)
		// Messages that were given up take room, too, and so do those that are not valid.
		wantRoom(t, slices.Repeat([]api.Message{tried(3, 8, 1)}, n), want)
		wantRoom(t, make([]api.Message, n), want)
	}
	wantRoom(t, rows(100000), 0)
}

// Exactly as many can be posted as there is room for.
func TestRoomIsForAsMany(t *testing.T) {
	for n := range 43 {
		l := rows(n)
		room := outbox.Room(l)
		for i := range room {
			l = post(t, l, good(uint64(200+i)), 5)
			wantRoom(t, l, room-i-1)
		}
		wantPost(t, l, good(999), 5, l, api.ErrFull)
	}
}

// P14.1 to P14.3 by a model.

// modelRight is Right by the document's words.
func modelRight(m api.Message) bool {
	id := m.ID >= 1 && m.ID <= 1<<40
	to := address.Kind(m.To) != 0
	body := len(m.Body) >= 1 && len(m.Body) <= 80
	attempts := m.Attempts >= 0 && m.Attempts <= 8
	due := m.Due >= 0 && m.Due <= 1<<40
	return id && to && body && attempts && due && (m.Dead && m.Attempts == 8 || !m.Dead && m.Attempts != 8)
}

// modelCheck is Check by the document's words.
func modelCheck(l []api.Message) bool {
	ok := len(l) <= 40
	for i, m := range l {
		ok = ok && modelRight(m)
		for _, later := range l[i+1:] {
			ok = ok && m.ID < later.ID
		}
	}
	return ok
}

// modelPost is Post by the document's words.
func modelPost(l []api.Message, m api.Message, now int64) ([]api.Message, api.Errno) {
	posted := api.Message{ID: m.ID, To: m.To, Body: m.Body, Due: now}
	if !modelRight(posted) {
		return l, api.ErrArg
	}
	for i, other := range l {
		if i == len(l)-1 && !(posted.ID > other.ID) {
			return l, api.ErrThere
		}
	}
	if len(l) >= 40 {
		return l, api.ErrFull
	}
	return append(slices.Clone(l), posted), api.OK
}

// modelPlace is where Taken and Failed find a message, or -1, by the document's words.
func modelPlace(l []api.Message, id uint64) int {
	place := -1
	for i := len(l) - 1; i >= 0; i-- {
		if l[i].ID == id {
			if place = i; l[i].Dead {
				place = -1
			}
		}
	}
	return place
}

// modelTaken is Taken by the document's words.
func modelTaken(l []api.Message, id uint64) ([]api.Message, api.Errno) {
	i := modelPlace(l, id)
	if i < 0 {
		return l, api.ErrNone
	}
	var left []api.Message
	for j, m := range l {
		if i != j {
			left = append(left, m)
		}
	}
	return left, api.OK
}

// modelFailed is Failed by the document's words.
func modelFailed(l []api.Message, id uint64, now int64) ([]api.Message, api.Errno) {
	i := modelPlace(l, id)
	if i < 0 {
		return l, api.ErrNone
	}
	n := l[i].Attempts + 1
	delay := int64(0)
	for j := 1; j <= n && j <= 7; j++ {
		delay = int64(1) << (j - 1)
	}
	due := int64(0)
	if now >= 0 {
		due = min(min(now, maxTime)+delay, maxTime)
	}
	return with(l, i, api.Message{ID: id, To: l[i].To, Body: l[i].Body, Attempts: n, Due: due, Dead: n >= 8}), api.OK
}

// modelOnly is the messages of l that are Dead, or that are not and due at now.
func modelOnly(l []api.Message, dead bool, now int64) []api.Message {
	var only []api.Message
	for _, m := range l {
		if m.Dead == dead && (dead || m.Due <= now) {
			only = append(only, m)
		}
	}
	return only
}

// modelNext is Next by the document's words.
func modelNext(l []api.Message) (int64, bool) {
	var dues []int64
	for _, m := range l {
		if !m.Dead {
			dues = append(dues, m.Due)
		}
	}
	if len(dues) == 0 {
		return 0, false
	}
	sort.Slice(dues, func(i, j int) bool { return dues[i] < dues[j] })
	return dues[0], true
}

// anyMessage is a message that is valid, but for its ID, which is small.
func anyMessage(source *rand.Rand) api.Message {
	return api.Message{
		ID:       uint64(1 + source.Intn(60)),
		To:       rightTos[source.Intn(len(rightTos))],
		Body:     rightBodies[source.Intn(len(rightBodies))],
		Attempts: source.Intn(8),
		Due:      source.Int63n(100),
	}
}

// anyList is a valid list.
func anyList(source *rand.Rand) []api.Message {
	by := map[uint64]api.Message{}
	for range source.Intn(90) {
		m := anyMessage(source)
		if source.Intn(3) == 0 {
			m.Attempts, m.Dead = 8, true
		}
		if len(by) < 40 {
			by[m.ID] = m
		}
	}
	var l []api.Message
	for _, m := range by {
		l = append(l, m)
	}
	sort.Slice(l, func(i, j int) bool { return l[i].ID < l[j].ID })
	return l
}

// anyRow is a list that need not be valid.
func anyRow(source *rand.Rand) []api.Message {
	l := anyList(source)
	for range source.Intn(4) {
		m := anyMessage(source)
		switch source.Intn(7) {
		case 0:
			m.ID = wrongIDs[source.Intn(len(wrongIDs))]
		case 1:
			m.To = wrongTos[source.Intn(len(wrongTos))]
		case 2:
			m.Body = wrongBodies[source.Intn(len(wrongBodies)-1)]
		case 3:
			m.Attempts = []int{math.MinInt, -1, 8, 9, math.MaxInt}[source.Intn(5)]
		case 4:
			m.Due = wrongTimes[source.Intn(len(wrongTimes))]
		case 5:
			m.Dead = true
		}
		l = slices.Insert(l, source.Intn(len(l)+1), m)
	}
	if source.Intn(10) == 0 {
		l = append(l, l...)
	}
	return l
}

// anyTime is a time, or a number that is none.
func anyTime(source *rand.Rand) int64 {
	switch source.Intn(8) {
	case 0:
		return wrongTimes[source.Intn(len(wrongTimes))]
	case 1:
		return rightTimes[source.Intn(len(rightTimes))]
	}
	return source.Int63n(110)
}

func TestAllByTheModel(t *testing.T) {
	source := rand.New(rand.NewSource(14))
	posts, finds := map[api.Errno]int{}, map[api.Errno]int{}
	valid, wrong := 0, 0
	for round := range 8000 {
		l := anyList(source)
		if round%2 == 0 {
			l = anyRow(source)
		}
		m, now, id := anyMessage(source), anyTime(source), uint64(source.Intn(63))
		if source.Intn(3) > 0 {
			m.ID += 40
		}
		if wantCheck(t, brief(l), l, modelCheck(l)); modelCheck(l) {
			valid++
		} else {
			wrong++
		}
		want, code := modelPost(l, m, now)
		wantPost(t, l, m, now, want, code)
		posts[code]++
		wantDue(t, l, now, modelOnly(l, false, now))
		want, code = modelTaken(l, id)
		wantTaken(t, l, id, want, code)
		finds[code]++
		want, code = modelFailed(l, id, now)
		wantFailed(t, l, id, now, want, code)
		wantDead(t, l, modelOnly(l, true, 0))
		wantForget(t, l, modelOnly(l, false, math.MaxInt64))
		next, found := modelNext(l)
		wantNext(t, l, next, found)
		wantRoom(t, l, max(0, 40-len(l)))
	}
	// Otherwise the lists would show too little.
	for _, code := range []api.Errno{api.OK, api.ErrArg, api.ErrThere, api.ErrFull} {
		wantTruth(t, fmt.Sprintf("%d posts with %d", posts[code], code), posts[code] > 200, true)
	}
	wantTruth(t, fmt.Sprint(finds, valid, wrong), finds[api.OK] > 1000 && finds[api.ErrNone] > 1000 && valid > 1000 && wrong > 1000, true)
}

// What the calls leave of a valid list is valid.
func TestValidListsStayValid(t *testing.T) {
	source := rand.New(rand.NewSource(141))
	for range 4000 {
		l := anyList(source)
		m, now, id := anyMessage(source), anyTime(source), uint64(source.Intn(63))
		m.ID += uint64(source.Intn(60))
		wantTruth(t, "what was handed in", outbox.Check(l), true)
		posted, _ := outbox.Post(l, m, now)
		left, _ := outbox.Taken(l, id)
		again, _ := outbox.Failed(l, id, now)
		for _, x := range [][]api.Message{posted, left, again, outbox.Forget(l), outbox.Dead(l), outbox.Due(l, now)} {
			wantTruth(t, "what was returned: "+brief(x), outbox.Check(x), true)
		}
	}
}

// P14.4: consequences.

// tries is how often and when a message that was posted was tried.
type tries struct {
	m     api.Message
	times []int64
}

// wantThere asks that of those that were posted, and not taken or forgotten, all are in the list, in their order, with as many attempts as were made.
func wantThere(t *testing.T, what string, l []api.Message, order []uint64, by map[uint64]*tries) {
	t.Helper()
	if len(l) != len(order) {
		t.Fatalf("%s: %d messages, want %d", what, len(l), len(order))
	}
	for i, id := range order {
		x, n := by[id], len(by[id].times)
		if m := l[i]; m.ID != id || m.To != x.m.To || m.Body != x.m.Body || m.Attempts != n || m.Dead != (n == 8) {
			t.Fatalf("%s: %+v after %d attempts, posted as %+v", what, m, n, x.m)
		}
		if n > 8 {
			t.Fatalf("%s: %d was tried at %v", what, id, x.times)
		}
	}
}

// Long rows of calls, by a dispatcher that tries all that is due, and whose carrier accepts some of it.
func TestRowsOfCalls(t *testing.T) {
	accepted, givenUp, full, most := 0, 0, 0, 0
	for seed := range int64(100) {
		source := rand.New(rand.NewSource(seed))
		accepts, posts, pace := source.Intn(4), 1+source.Intn(3), 1+source.Int63n(20)
		now := source.Int63n(2) * (maxTime - 3000)
		var l []api.Message
		var order []uint64
		by := map[uint64]*tries{}
		gone := func(id uint64) { order = slices.DeleteFunc(order, func(x uint64) bool { return x == id }) }
		next := uint64(1)
		for step := range 250 {
			what := fmt.Sprintf("seed %d, step %d, at %d", seed, step, now)
			for range source.Intn(posts + 1) {
				m := anyMessage(source)
				m.ID = next
				was := slices.Clone(l)
				got, err := outbox.Post(l, m, now)
				if wantTruth(t, what+": posted", err == api.OK, len(order) < 40); err == api.OK {
					next += 1 + uint64(source.Intn(3))
					order = append(order, m.ID)
					by[m.ID] = &tries{m: m}
				} else {
					full++
					wantNumber(t, what, int64(err), int64(api.ErrFull))
					wantList(t, what, got, was)
				}
				l = got
			}
			wantThere(t, what, l, order, by)
			for _, m := range outbox.Due(l, now) {
				x := by[m.ID]
				if len(x.times) > 0 {
					wantTruth(t, fmt.Sprint(what, ": due ", m.ID), now >= retry.Next(x.times[len(x.times)-1], len(x.times)), true)
				}
				if x.times = append(x.times, now); source.Intn(4) < accepts {
					accepted++
					l = taken(t, l, m.ID)
					gone(m.ID)
				} else {
					l = failed(t, l, m.ID, now)
				}
				most = max(most, len(x.times))
			}
			wantThere(t, what, l, order, by)
			for _, m := range outbox.Dead(l) {
				wantNumber(t, what+": attempts of one that was given up", int64(len(by[m.ID].times)), 8)
				_, err := outbox.Taken(l, m.ID)
				_, again := outbox.Failed(l, m.ID, now)
				wantTruth(t, what+": one that was given up is there no more", err == api.ErrNone && again == api.ErrNone, true)
			}
			if source.Intn(15) == 0 {
				for _, m := range outbox.Dead(l) {
					givenUp++
					gone(m.ID)
				}
				l = outbox.Forget(l)
				wantThere(t, what, l, order, by)
			}
			wantTruth(t, what+": valid", outbox.Check(l), true)
			now += source.Int63n(pace)
		}
	}
	wantNumber(t, "attempts of one message at most", int64(most), 8)
	// Otherwise the rows would show too little.
	wantTruth(t, fmt.Sprint(accepted, " accepted, ", givenUp, " given up, ", full, " without room"), accepted > 1000 && givenUp > 1000 && full > 100, true)
}

// A message that nobody accepts, by a dispatcher that runs once every so many ticks.
func TestAMessageThatAlwaysFails(t *testing.T) {
	for _, each := range []int64{1, 2, 3, 5, 16, 64, 65, 1000} {
		for _, start := range []int64{0, 1, 12345, 1 << 32, maxTime - 100000} {
			l := post(t, nil, good(9), start)
			var times []int64
			for now := start; now < start+80*each+300; now += each {
				if each == 1 {
					wantNumber(t, fmt.Sprint("attempts up to ", now), int64(len(times)), int64(retry.Tries(now-start-1)))
				}
				for _, m := range outbox.Due(l, now) {
					times = append(times, now)
					l = failed(t, l, m.ID, now)
				}
				wantNumber(t, "messages", int64(len(l)), 1)
				wantNumber(t, "attempts", int64(l[0].Attempts), int64(len(times)))
			}
			what := fmt.Sprintf("tried from %d on, once every %d ticks, at %v", start, each, times)
			wantNumber(t, what, int64(len(times)), 8)
			for i, at := range times[1:] {
				wantTruth(t, what, at >= start+retry.Sum(1, i+1) && at <= start+retry.Within(i+1, each), true)
				wantTruth(t, what, at >= times[i]+retry.Delay(i+1) && at < times[i]+retry.Delay(i+1)+each, true)
			}
			wantList(t, what, outbox.Dead(l), l)
			wantList(t, what, outbox.Forget(l), nil)
			wantNext(t, l, 0, false)
			wantNone(t, l, 9)
		}
	}
}

// Near the end of all times a message is tried no more often than elsewhere, though all its attempts are due at once.
func TestAMessageThatFailsAtTheEndOfTime(t *testing.T) {
	l := post(t, nil, good(9), maxTime)
	for n := range 8 {
		wantList(t, "due", outbox.Due(l, maxTime), []api.Message{tried(9, n, maxTime)})
		l = failed(t, l, 9, maxTime)
	}
	wantList(t, "given up", outbox.Dead(l), []api.Message{tried(9, 8, maxTime)})
	wantDue(t, l, maxTime, nil)
	wantNone(t, l, 9)
}

// Whatever other calls do, a message that they do not mention stays as it is.
func TestCallsLeaveOtherMessages(t *testing.T) {
	source := rand.New(rand.NewSource(1412))
	for range 2000 {
		l := anyRow(source)
		id, now := uint64(source.Intn(63)), anyTime(source)
		others := func(x []api.Message) []api.Message {
			return slices.DeleteFunc(slices.Clone(x), func(m api.Message) bool { return m.ID == id })
		}
		left, _ := outbox.Taken(l, id)
		wantList(t, "what Taken leaves of others", others(left), others(l))
		left, _ = outbox.Failed(l, id, now)
		wantList(t, "what Failed leaves of others", others(left), others(l))
		m := good(id)
		left, _ = outbox.Post(l, m, now)
		wantList(t, "what Post leaves of others", others(left), others(l))
		wantNumber(t, "messages of Dead and Forget", int64(len(outbox.Dead(l))+len(outbox.Forget(l))), int64(len(l)))
	}
}

// P1: all calls end for whatever they are given.
func TestCallsOfWhatIsNotValid(t *testing.T) {
	times := append(append([]int64{}, rightTimes...), wrongTimes...)
	lists := [][]api.Message{nil, {{}}, {{}, {}}, {good(2), good(1)}, {good(1), good(1)}, rows(41), slices.Repeat(rows(999), 50), {{To: strings.Repeat("a", 1<<20), Body: strings.Repeat("b", 1<<20)}}}
	for _, attempts := range []int{math.MinInt, math.MinInt + 1, -1, 0, 7, 8, 9, math.MaxInt - 1, math.MaxInt} {
		for _, due := range times {
			for _, id := range []uint64{0, 1, maxID, maxID + 1, math.MaxUint64} {
				lists = append(lists, []api.Message{{ID: id, To: "\xff", Attempts: attempts, Due: due}, {ID: id, Attempts: attempts, Due: due, Dead: true}})
			}
		}
	}
	for _, l := range lists {
		lent, same := lend(t, "a call", l)
		outbox.Check(lent)
		outbox.Next(lent)
		outbox.Room(lent)
		same(outbox.Dead(lent))
		same(outbox.Forget(lent))
		for _, id := range []uint64{0, 1, maxID, maxID + 1, math.MaxUint64} {
			got, _ := outbox.Taken(lent, id)
			same(got)
			for _, now := range []int64{0, maxTime, -1, maxTime + 1, math.MinInt64, math.MaxInt64} {
				same(outbox.Due(lent, now))
				got, _ = outbox.Failed(lent, id, now)
				same(got)
				got, _ = outbox.Post(lent, good(id), now)
				same(got)
			}
		}
	}
}

// R4: equal calls return equal results, and what was returned earlier stays as it was.
func TestEqualCalls(t *testing.T) {
	l := rows(20)
	l[3].Attempts, l[3].Dead = 8, true
	calls := func() [][]api.Message {
		none, _ := outbox.Taken(l, 999)
		return [][]api.Message{post(t, l, good(50), 7), taken(t, l, 2), failed(t, l, 10, 8), none, outbox.Due(l, 97), outbox.Dead(l), outbox.Forget(l)}
	}
	first := calls()
	was := [][]api.Message{}
	for _, x := range first {
		was = append(was, slices.Clone(x))
	}
	for range 20 {
		for i, x := range calls() {
			wantList(t, "equal calls", x, was[i])
		}
		for i, x := range first {
			// Two lists that were made of one do not write into each other.
			one, other := post(t, x, good(60), 7), post(t, x, good(70), 7)
			wantNumber(t, "the first ID", int64(one[len(one)-1].ID), 60)
			wantNumber(t, "the other ID", int64(other[len(other)-1].ID), 70)
			failed(t, one, 60, 9)
			wantNumber(t, "attempts of the first one", int64(one[len(one)-1].Attempts), 0)
			wantList(t, "what was returned", x, was[i])
		}
	}
}
