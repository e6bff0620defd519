package pack_test

import (
	"encoding/binary"
	"fmt"
	"math"
	"math/big"
	"math/rand"
	"reflect"
	"slices"
	"strings"
	"testing"

	"homecoming/pack"
)

const greatest = math.MaxUint64

// numbers are those at which an encoding grows, and others.
func numbers() []uint64 {
	l := []uint64{0, 1, 2, 5, 100, 126, 127, 128, 129, 255, 256, 300, 1 << 40, greatest - 1, greatest}
	for bit := range 64 {
		l = append(l, 1<<bit-1, 1<<bit, 1<<bit+1)
	}
	return l
}

// texts are strings at the lengths at which an encoding grows, and of all bytes.
func texts() []string {
	l := []string{"", "a", "hi", "\x00", "\x80", "\xff\xff", "\x80\x00\x01", "grüße", "\xc3\x28"}
	all := make([]byte, 256)
	for i := range all {
		all[i] = byte(i)
	}
	l = append(l, string(all))
	for _, n := range []int{126, 127, 128, 129, 300, 16383, 16384, 16385} {
		l = append(l, strings.Repeat("x", n))
	}
	return l
}

// rows are lists at the lengths at which an encoding grows, and of all kinds of strings.
func rows() [][]string {
	l := [][]string{nil, {}, {""}, {"", ""}, {"a"}, {"a", "bc"}, {"", "x", ""}, texts()}
	for _, n := range []int{127, 128, 129, 300} {
		l = append(l, slices.Repeat([]string{"s"}, n), make([]string, n))
	}
	return l
}

// The encodings by the library, whose varints are those of the document.

func ofNumber(n uint64) string {
	return string(binary.AppendUvarint(nil, n))
}

func ofText(s string) string {
	return ofNumber(uint64(len(s))) + s
}

func ofRow(l []string) string {
	all := ofNumber(uint64(len(l)))
	for _, s := range l {
		all += ofText(s)
	}
	return all
}

// model is a reader by the document's words: numbers of any size, and no limit that is not asked for.
type model struct {
	s    string
	at   int
	good bool
}

// number is the one that begins at the position, if there is one.
func (m *model) number() (*big.Int, bool) {
	n := new(big.Int)
	for i := m.at; i < len(m.s); i++ {
		bits := big.NewInt(int64(m.s[i] % 128))
		n.Add(n, bits.Lsh(bits, uint(7*(i-m.at))))
		if m.s[i] < 128 {
			one := i == m.at
			m.at = i + 1
			return n, n.BitLen() <= 64 && (m.s[i] != 0 || one)
		}
	}
	return nil, false
}

func (m *model) num(most *big.Int) uint64 {
	if !m.good {
		return 0
	}
	n, ok := m.number()
	if !ok || n.Cmp(most) > 0 {
		m.good = false
		return 0
	}
	return n.Uint64()
}

func (m *model) text(most int) string {
	n := m.num(big.NewInt(int64(most)))
	if !m.good || n > uint64(len(m.s)-m.at) {
		m.good = false
		return ""
	}
	m.at += int(n)
	return m.s[m.at-int(n) : m.at]
}

func (m *model) row(many, most int) []string {
	n := m.num(big.NewInt(int64(many)))
	var l []string
	for i := uint64(0); m.good && i < n; i++ {
		l = append(l, m.text(most))
	}
	if !m.good {
		return nil
	}
	return l
}

// standing is all that can be asked of a reader without reading on.
type standing struct {
	good, end bool
	rest      string
}

func (s standing) String() string {
	return fmt.Sprintf("good %v, at its end %v, rest %.40q", s.good, s.end, s.rest)
}

func (m *model) standing() standing {
	if !m.good {
		return standing{}
	}
	return standing{true, m.at == len(m.s), m.s[m.at:]}
}

func standingOf(r *pack.Reader) standing {
	return standing{r.Good(), r.End(), r.Rest()}
}

// wantRest asks for a good reader with that rest.
func wantRest(t *testing.T, what string, r *pack.Reader, rest string) {
	t.Helper()
	if got, want := standingOf(r), (standing{true, rest == "", rest}); got != want {
		t.Errorf("%s: %v, want %v", what, got, want)
	}
}

// wantBad asks for a reader that is not good, and from which nothing can be had any more.
func wantBad(t *testing.T, what string, r *pack.Reader) {
	t.Helper()
	for range 2 {
		if got := standingOf(r); got != (standing{}) {
			t.Errorf("%s: %v, want none of it", what, got)
		}
		n, s, l := r.Num(greatest), r.Text(math.MaxInt), r.Row(math.MaxInt, math.MaxInt)
		if n != 0 || s != "" || len(l) != 0 {
			t.Errorf("%s: there are %d, %q, %q to be had", what, n, s, l)
		}
	}
}

// wantNumber has a number read, and then what follows it.
func wantNumber(t *testing.T, s string, most, want uint64, rest string) {
	t.Helper()
	r, what := pack.Read(s), fmt.Sprintf("Num(%d) of %q", most, s)
	if got := r.Num(most); got != want {
		t.Errorf("%s: %d, want %d", what, got, want)
	}
	wantRest(t, what, r, rest)
}

func wantNoNumber(t *testing.T, s string, most uint64) {
	t.Helper()
	r, what := pack.Read(s), fmt.Sprintf("Num(%d) of %q", most, s)
	if got := r.Num(most); got != 0 {
		t.Errorf("%s: %d, want 0", what, got)
	}
	wantBad(t, what, r)
}

func wantText(t *testing.T, s string, most int, want, rest string) {
	t.Helper()
	r, what := pack.Read(s), fmt.Sprintf("Text(%d) of %.40q", most, s)
	if got := r.Text(most); got != want {
		t.Errorf("%s: %.40q, want %.40q", what, got, want)
	}
	wantRest(t, what, r, rest)
}

func wantNoText(t *testing.T, s string, most int) {
	t.Helper()
	r, what := pack.Read(s), fmt.Sprintf("Text(%d) of %.40q", most, s)
	if got := r.Text(most); got != "" {
		t.Errorf("%s: %.40q, want nothing", what, got)
	}
	wantBad(t, what, r)
}

func wantRow(t *testing.T, s string, many, most int, want []string, rest string) {
	t.Helper()
	r, what := pack.Read(s), fmt.Sprintf("Row(%d, %d) of %.40q", many, most, s)
	if got := r.Row(many, most); !slices.Equal(got, want) {
		t.Errorf("%s: %.40q, want %.40q", what, got, want)
	}
	wantRest(t, what, r, rest)
}

func wantNoRow(t *testing.T, s string, many, most int) {
	t.Helper()
	r, what := pack.Read(s), fmt.Sprintf("Row(%d, %d) of %.40q", many, most, s)
	if got := r.Row(many, most); len(got) != 0 {
		t.Errorf("%s: %.40q, want nothing", what, got)
	}
	wantBad(t, what, r)
}

func wantWritten(t *testing.T, what string, w *pack.Writer, want string) {
	t.Helper()
	if got := w.String(); got != want {
		t.Errorf("%s: % .40x, want % .40x", what, got, want)
	}
}

// P3.1

// known are numbers whose encodings were worked out by hand.
var known = []struct {
	n     uint64
	bytes string
}{
	{0, "\x00"}, {1, "\x01"}, {127, "\x7f"}, {128, "\x80\x01"}, {129, "\x81\x01"}, {255, "\xff\x01"},
	{256, "\x80\x02"}, {300, "\xac\x02"}, {16383, "\xff\x7f"}, {16384, "\x80\x80\x01"},
	{1<<63 - 1, "\xff\xff\xff\xff\xff\xff\xff\xff\x7f"},
	{1 << 63, "\x80\x80\x80\x80\x80\x80\x80\x80\x80\x01"},
	{greatest, "\xff\xff\xff\xff\xff\xff\xff\xff\xff\x01"},
}

func TestNumWritesKnownNumbers(t *testing.T) {
	for _, k := range known {
		wantWritten(t, fmt.Sprintf("Num(%d)", k.n), new(pack.Writer).Num(k.n), k.bytes)
	}
}

func TestNumWritesAllSizes(t *testing.T) {
	all := ""
	for _, n := range numbers() {
		wantWritten(t, fmt.Sprintf("Num(%d)", n), new(pack.Writer).Num(n), ofNumber(n))
		all += ofNumber(n)
	}
	wantWritten(t, "all at once", new(pack.Writer).Num(numbers()...), all)
}

func TestTextWritesTheLengthAndTheBytes(t *testing.T) {
	wantWritten(t, "hi", new(pack.Writer).Text("hi"), "\x02hi")
	wantWritten(t, "an empty string", new(pack.Writer).Text(""), "\x00")
	wantWritten(t, "three strings", new(pack.Writer).Text("a", "", "bc"), "\x01a\x00\x02bc")
	wantWritten(t, "127 bytes", new(pack.Writer).Text(strings.Repeat("x", 127)), "\x7f"+strings.Repeat("x", 127))
	wantWritten(t, "128 bytes", new(pack.Writer).Text(strings.Repeat("x", 128)), "\x80\x01"+strings.Repeat("x", 128))
	all := ""
	for _, s := range texts() {
		wantWritten(t, fmt.Sprintf("Text(%.40q)", s), new(pack.Writer).Text(s), ofText(s))
		all += ofText(s)
	}
	wantWritten(t, "all at once", new(pack.Writer).Text(texts()...), all)
}

func TestRowWritesTheNumberAndTheStrings(t *testing.T) {
	wantWritten(t, "two strings", new(pack.Writer).Row([]string{"a", "bc"}), "\x02\x01a\x02bc")
	wantWritten(t, "a nil list", new(pack.Writer).Row(nil), "\x00")
	wantWritten(t, "an empty list", new(pack.Writer).Row([]string{}), "\x00")
	wantWritten(t, "a list of an empty string", new(pack.Writer).Row([]string{""}), "\x01\x00")
	for _, l := range rows() {
		wantWritten(t, fmt.Sprintf("Row of %d strings", len(l)), new(pack.Writer).Row(l), ofRow(l))
	}
}

func TestNothingIsWrittenOfNoArguments(t *testing.T) {
	w := &pack.Writer{}
	wantWritten(t, "a new writer", w, "")
	wantWritten(t, "no arguments", w.Num().Text(), "")
	wantWritten(t, "nil lists", w.Num([]uint64(nil)...).Text([]string(nil)...), "")
	wantWritten(t, "no arguments behind a number", w.Num(7).Num().Text(), "\x07")
}

func TestWritersReturnThemselves(t *testing.T) {
	w := &pack.Writer{}
	for i, got := range []*pack.Writer{w.Num(), w.Num(1, 2), w.Text(), w.Text("a"), w.Row(nil), w.Row([]string{"b"})} {
		if got != w {
			t.Errorf("call %d returns another writer", i)
		}
	}
	wantWritten(t, "all of it", w, "\x01\x02\x01a\x00\x01\x01b")
}

func TestWritesAreAppended(t *testing.T) {
	w, want := &pack.Writer{}, ""
	for i, n := range numbers() {
		before := w.String()
		w.Num(n)
		want += ofNumber(n)
		s, l := texts()[i%len(texts())], rows()[i%len(rows())]
		w.Text(s).Row(l)
		want += ofText(s) + ofRow(l)
		wantWritten(t, fmt.Sprintf("after %d rounds", i+1), w, want)
		wantWritten(t, "asked again", w, want)
		if !strings.HasPrefix(want, before) {
			t.Fatal("what String returned was changed by a later write")
		}
	}
}

func TestWritersHaveNothingInCommon(t *testing.T) {
	a, b := &pack.Writer{}, &pack.Writer{}
	a.Num(1)
	b.Text("b")
	a.Num(2)
	wantWritten(t, "the first", a, "\x01\x02")
	wantWritten(t, "the second", b, "\x01b")
}

func TestWritersLeaveTheirArgumentsAlone(t *testing.T) {
	nums, strs, row := []uint64{300, 0}, []string{"a", ""}, []string{"b", "c"}
	w := new(pack.Writer).Num(nums...).Text(strs...).Row(row)
	if got := fmt.Sprintf("%d %q %q", nums, strs, row); got != `[300 0] ["a" ""] ["b" "c"]` {
		t.Errorf("the arguments are %s afterwards", got)
	}
	nums[0], strs[0], row[0] = 5, "other", "other"
	wantWritten(t, "after the lists were changed", w, "\xac\x02\x00\x01a\x00\x02\x01b\x01c")
}

func TestANilWriter(t *testing.T) {
	var w *pack.Writer
	for i, got := range []*pack.Writer{w.Num(), w.Num(1, 2), w.Text(), w.Text("a"), w.Row(nil), w.Row([]string{"b"}), w.Num(1).Text("a").Row(nil)} {
		if got != nil {
			t.Errorf("call %d returns a writer", i)
		}
	}
	wantWritten(t, "a nil writer", w, "")
}

// P3.2: Num

func TestNumReadsKnownNumbers(t *testing.T) {
	for _, k := range known {
		for _, rest := range []string{"", "\x00", "\xff", "abc"} {
			wantNumber(t, k.bytes+rest, greatest, k.n, rest)
		}
	}
}

func TestNumHasALimit(t *testing.T) {
	for _, n := range numbers() {
		s := ofNumber(n)
		wantNumber(t, s+"x", n, n, "x")
		wantNumber(t, s+"x", greatest, n, "x")
		if n > 0 {
			wantNoNumber(t, s+"x", n-1)
			wantNoNumber(t, s+"x", 0)
		}
	}
	wantNumber(t, "\x00", 0, 0, "")
	wantNoNumber(t, "\x01", 0)
}

func TestNumOfAnEncodingThatIsCutOff(t *testing.T) {
	wantNoNumber(t, "", greatest)
	for _, n := range numbers() {
		s := ofNumber(n)
		for i := range len(s) {
			wantNoNumber(t, s[:i], greatest)
		}
	}
}

func TestNumOfALastByteZero(t *testing.T) {
	for _, s := range []string{"\x80\x00", "\x81\x00", "\xff\x00", "\x80\x80\x00", "\xac\x82\x00", "\xff\xff\xff\x00"} {
		wantNoNumber(t, s, greatest)
		wantNoNumber(t, s+"\x01", greatest)
	}
	for i := 1; i < 40; i++ {
		wantNoNumber(t, strings.Repeat("\x80", i)+"\x00", greatest)
		wantNoNumber(t, strings.Repeat("\xff", i)+"\x00", greatest)
	}
}

func TestNumOfMoreThan64Bits(t *testing.T) {
	for _, b := range []string{"\x80", "\xff", "\x81"} {
		for last := 1; last < 128; last++ {
			s := strings.Repeat(b, 9) + string([]byte{byte(last)})
			if last > 1 {
				wantNoNumber(t, s, greatest)
			}
			for i := 1; i < 12; i++ {
				wantNoNumber(t, strings.Repeat(b, i)+s, greatest)
			}
		}
	}
	// These bits would leave 1 if the ones beyond 64 were lost.
	wantNoNumber(t, "\x81\x80\x80\x80\x80\x80\x80\x80\x80\x02", greatest)
	wantNoNumber(t, "\x81\x80\x80\x80\x80\x80\x80\x80\x80\x80\x01", greatest)
	wantNoNumber(t, strings.Repeat("\x80", 1<<16)+"\x01", greatest)
}

// P3.2: Text

func TestTextReadsAString(t *testing.T) {
	for _, s := range texts() {
		for _, rest := range []string{"", "\x00", "more"} {
			wantText(t, ofText(s)+rest, len(s), s, rest)
			wantText(t, ofText(s)+rest, len(s)+1, s, rest)
			wantText(t, ofText(s)+rest, math.MaxInt, s, rest)
		}
	}
}

func TestTextHasALimit(t *testing.T) {
	for _, s := range texts() {
		for _, most := range []int{len(s) - 1, -1, -2, math.MinInt} {
			wantNoText(t, ofText(s), most)
			wantNoText(t, ofText(s)+"more", most)
		}
	}
	wantText(t, "\x00", 0, "", "")
	wantNoText(t, "\x01a", 0)
	wantNoText(t, "\x00", -1)
	wantNoText(t, "", -1)
}

func TestTextThatIsCutOff(t *testing.T) {
	wantNoText(t, "", math.MaxInt)
	for _, s := range []string{"", "a", "abc", strings.Repeat("x", 300)} {
		for i := range len(ofText(s)) {
			wantNoText(t, ofText(s)[:i], math.MaxInt)
		}
	}
}

func TestTextOfAWrongLength(t *testing.T) {
	for _, n := range []uint64{5, 128, 1 << 31, 1 << 32, 1<<32 + 1, 1<<63 - 1, 1 << 63, 1<<63 + 1, greatest} {
		wantNoText(t, ofNumber(n)+"abcd", math.MaxInt)
	}
	wantNoText(t, "\x81\x00a", math.MaxInt)
	wantNoText(t, "\x80\x00", math.MaxInt)
	wantNoText(t, "\x81\x80\x80\x80\x80\x80\x80\x80\x80\x02a", math.MaxInt)
	wantNoText(t, "\x80", math.MaxInt)
}

// P3.2: Row

func longest(l []string) int {
	n := 0
	for _, s := range l {
		n = max(n, len(s))
	}
	return n
}

func TestRowReadsAList(t *testing.T) {
	for _, l := range rows() {
		for _, rest := range []string{"", "\x00", "more"} {
			wantRow(t, ofRow(l)+rest, len(l), longest(l), l, rest)
			wantRow(t, ofRow(l)+rest, len(l)+1, longest(l)+1, l, rest)
			wantRow(t, ofRow(l)+rest, math.MaxInt, math.MaxInt, l, rest)
		}
	}
}

func TestRowHasALimitOfStrings(t *testing.T) {
	for _, l := range rows() {
		for _, many := range []int{len(l) - 1, -1, -2, math.MinInt} {
			wantNoRow(t, ofRow(l), many, math.MaxInt)
			wantNoRow(t, ofRow(l)+"more", many, math.MaxInt)
		}
	}
	wantRow(t, "\x00", 0, 0, nil, "")
	wantNoRow(t, "\x01\x00", 0, 9)
	wantNoRow(t, "\x00", -1, 9)
	wantNoRow(t, "\x00", -1, -1)
}

func TestRowHasALimitOfBytes(t *testing.T) {
	for _, l := range rows() {
		if len(l) == 0 {
			continue
		}
		for _, most := range []int{longest(l) - 1, -1, -2, math.MinInt} {
			wantNoRow(t, ofRow(l), len(l), most)
			wantNoRow(t, ofRow(l)+"more", math.MaxInt, most)
		}
	}
	wantRow(t, "\x02\x00\x00", 2, 0, []string{"", ""}, "")
	wantNoRow(t, "\x02\x00\x01a", 2, 0)
	wantNoRow(t, "\x02\x01a\x02bc", 2, 1)
	wantNoRow(t, "\x02\x02bc\x01a", 2, 1)
}

func TestRowReadsAnEmptyListWhereNoStringIsAllowed(t *testing.T) {
	for _, most := range []int{-1, -2, math.MinInt} {
		for _, many := range []int{0, 1, math.MaxInt} {
			wantRow(t, "\x00", many, most, nil, "")
			wantRow(t, "\x00\x01a", many, most, nil, "\x01a")
			wantNoRow(t, "\x01\x00", many, most)
		}
	}
}

func TestRowThatIsCutOff(t *testing.T) {
	for _, l := range [][]string{nil, {""}, {"a", "bc"}, {"", "", ""}, slices.Repeat([]string{"xy"}, 130)} {
		for i := range len(ofRow(l)) {
			wantNoRow(t, ofRow(l)[:i], math.MaxInt, math.MaxInt)
		}
	}
}

func TestRowOfAWrongNumber(t *testing.T) {
	for _, n := range []uint64{3, 5, 128, 1 << 31, 1 << 32, 1<<32 + 2, 1<<63 - 1, 1 << 63, 1<<63 + 2, greatest} {
		wantNoRow(t, ofNumber(n)+"\x00\x00", math.MaxInt, math.MaxInt)
		wantNoRow(t, ofNumber(n)+"\x00\x00", 2, math.MaxInt)
		wantNoRow(t, ofNumber(n), math.MaxInt, math.MaxInt)
	}
	wantNoRow(t, "\x80\x00", 9, 9)
	wantNoRow(t, "\x82\x00\x00\x00", 9, 9)
	wantNoRow(t, "\x02\x00\x80\x00", 9, 9)
	wantNoRow(t, "\x01\x81\x00a", 9, 9)
}

// The last of these numbers are too great to be counted down.
func TestRowOfAGreatNumberEnds(t *testing.T) {
	s := strings.Repeat("\x00", 1<<16)
	for _, n := range []uint64{1<<16 + 1, 1 << 40, 1<<63 - 1, greatest} {
		wantNoRow(t, ofNumber(n)+s, math.MaxInt, math.MaxInt)
	}
	wantRow(t, ofNumber(1<<16)+s, math.MaxInt, 0, make([]string, 1<<16), "")
}

func TestRowBelongsToTheCaller(t *testing.T) {
	s := ofRow([]string{"a", "b"}) + ofRow([]string{"c", "d"})
	r := pack.Read(s)
	first := r.Row(2, 1)
	first[0], first = "other", append(first, "another")
	if second := r.Row(2, 1); !slices.Equal(second, []string{"c", "d"}) || !r.End() {
		t.Errorf("the second list is %q", second)
	}
	wantRow(t, s, 2, 1, []string{"a", "b"}, ofRow([]string{"c", "d"}))
}

// P3.2: Rest, Good, End

func TestRestAndEndAtAllPositions(t *testing.T) {
	w := new(pack.Writer).Num(300).Text("hi").Row([]string{"a", ""})
	s := w.String()
	r := pack.Read(s)
	wantRest(t, "at the beginning", r, s)
	wantRest(t, "asked again", r, s)
	r.Num(300)
	wantRest(t, "behind the number", r, "\x02hi\x02\x01a\x00")
	r.Text(2)
	wantRest(t, "behind the string", r, "\x02\x01a\x00")
	r.Row(2, 1)
	wantRest(t, "at the end", r, "")
	wantRest(t, "asked again at the end", r, "")
	if got := r.Num(9); got != 0 {
		t.Errorf("behind the end there is %d", got)
	}
	wantBad(t, "behind the end", r)
}

func TestReadersOfNothing(t *testing.T) {
	wantRest(t, "an empty string", pack.Read(""), "")
	wantRest(t, "a reader without a string", &pack.Reader{}, "")
	r := pack.Read("")
	r.Num(greatest)
	wantBad(t, "a number of nothing", r)
}

func TestAReaderThatIsNotGood(t *testing.T) {
	fails := map[string]func(*pack.Reader){
		"a number beyond its limit":        func(r *pack.Reader) { r.Num(2) },
		"a string beyond its limit":        func(r *pack.Reader) { r.Text(2) },
		"a string that is not allowed":     func(r *pack.Reader) { r.Text(-1) },
		"a list beyond its limit":          func(r *pack.Reader) { r.Row(2, 9) },
		"a list of a string beyond limits": func(r *pack.Reader) { r.Row(9, 0) },
		"a list that is not allowed":       func(r *pack.Reader) { r.Row(-1, 9) },
	}
	for what, fail := range fails {
		// These bytes could be read from each of their places.
		r := pack.Read("\x03\x01\x01\x01\x01\x01\x01\x01")
		fail(r)
		wantBad(t, what, r)
		fail(r)
		wantBad(t, what+", tried again", r)
		r = pack.Read("\x05\x03\x01\x01\x01\x01\x01\x01\x01")
		if got := r.Num(5); got != 5 {
			t.Errorf("the number ahead is %d", got)
		}
		fail(r)
		wantBad(t, what+", behind a number", r)
	}
}

func TestANilReader(t *testing.T) {
	var r *pack.Reader
	wantBad(t, "a nil reader", r)
	for _, most := range []int{math.MinInt, -1, 0, 1, math.MaxInt} {
		if n, s, l := r.Num(uint64(most)), r.Text(most), r.Row(most, most); n != 0 || s != "" || len(l) != 0 {
			t.Errorf("%d: a nil reader has %d, %q, %q", most, n, s, l)
		}
	}
	wantBad(t, "a nil reader, afterwards", r)
}

func TestReadersOfOneStringHaveNothingInCommon(t *testing.T) {
	s := "\x01\x02\x03"
	a, b := pack.Read(s), pack.Read(s)
	a.Num(1)
	a.Num(1)
	wantBad(t, "the first", a)
	wantRest(t, "the second", b, s)
}

// P3.2 and P3.3 for many strings

// everyString calls f for all strings of at most n of the bytes.
func everyString(bytes string, n int, f func(string)) {
	var from func(s string)
	from = func(s string) {
		f(s)
		for i := 0; len(s) < n && i < len(bytes); i++ {
			from(s + bytes[i:i+1])
		}
	}
	from("")
}

// hold compares one call of each kind with the model, and with the encoding of what was read.
func hold(t *testing.T, s string, number uint64, many, most int) {
	t.Helper()
	r, m := pack.Read(s), &model{s: s, good: true}
	n, wantN := r.Num(number), m.num(new(big.Int).SetUint64(number))
	if n != wantN || !holds(s, r, m, new(pack.Writer).Num(n)) {
		t.Fatalf("Num(%d) of %q: %d, %v, want %d, %v", number, s, n, standingOf(r), wantN, m.standing())
	}
	r, m = pack.Read(s), &model{s: s, good: true}
	x, wantX := r.Text(most), m.text(most)
	if x != wantX || !holds(s, r, m, new(pack.Writer).Text(x)) {
		t.Fatalf("Text(%d) of %q: %q, %v, want %q, %v", most, s, x, standingOf(r), wantX, m.standing())
	}
	r, m = pack.Read(s), &model{s: s, good: true}
	l, wantL := r.Row(many, most), m.row(many, most)
	if !slices.Equal(l, wantL) || !holds(s, r, m, new(pack.Writer).Row(l)) {
		t.Fatalf("Row(%d, %d) of %q: %q, %v, want %q, %v", many, most, s, l, standingOf(r), wantL, m.standing())
	}
}

// holds reports whether the reader stands where the model does, and whether what it read of s is there
// in the only encoding that it has.
func holds(s string, r *pack.Reader, m *model, again *pack.Writer) bool {
	return standingOf(r) == m.standing() && (!r.Good() || again.String()+r.Rest() == s)
}

func TestReadersAreThoseOfTheDocument(t *testing.T) {
	all := make([]byte, 256)
	for i := range all {
		all[i] = byte(i)
	}
	everyString(string(all), 2, func(s string) { hold(t, s, greatest, math.MaxInt, math.MaxInt) })
	everyString("\x00\x01\x02\x7f\x80\x82\xff", 5, func(s string) { hold(t, s, greatest, math.MaxInt, math.MaxInt) })
	everyString("\x00\x01\x02\x80\x81", 5, func(s string) {
		for _, many := range []int{-1, 0, 1, 2} {
			for _, most := range []int{-1, 0, 1, 2} {
				hold(t, s, uint64(many+1), many, most)
			}
		}
	})
	everyString("\x00\x01\x02\x80\xff", 4, func(s string) {
		for i := range 9 {
			hold(t, strings.Repeat("\x80", i+1)+s, greatest, math.MaxInt, math.MaxInt)
			hold(t, strings.Repeat("\xff", i+1)+s, greatest, math.MaxInt, math.MaxInt)
		}
	})
}

// P3.3

// value is one that is written and read back: a number, a string or a list.
type value any

func randomText(rnd *rand.Rand) string {
	b := make([]byte, rnd.Intn(1+rnd.Intn(200)))
	for i := range b {
		b[i] = byte(rnd.Intn(256))
	}
	return string(b)
}

func randomValue(rnd *rand.Rand) value {
	switch rnd.Intn(3) {
	case 0:
		return rnd.Uint64() >> rnd.Intn(64)
	case 1:
		return randomText(rnd)
	}
	l := make([]string, rnd.Intn(1+rnd.Intn(140)))
	for i := range l {
		l[i] = randomText(rnd)
	}
	return l
}

func write(w *pack.Writer, v value) {
	switch x := v.(type) {
	case uint64:
		w.Num(x)
	case string:
		w.Text(x)
	case []string:
		w.Row(x)
	}
}

// readLike reads a value of the same kind, with limits that v just keeps.
func readLike(r *pack.Reader, v value) value {
	switch x := v.(type) {
	case uint64:
		return r.Num(x)
	case string:
		return r.Text(len(x))
	case []string:
		return append([]string{}, r.Row(len(x), longest(x))...)
	}
	return nil
}

func TestWhatWasWrittenIsReadBack(t *testing.T) {
	rnd := rand.New(rand.NewSource(3))
	for round := range 300 {
		values := make([]value, rnd.Intn(30))
		w := &pack.Writer{}
		for i := range values {
			values[i] = randomValue(rnd)
			write(w, values[i])
		}
		s := w.String()
		r := pack.Read(s)
		again := &pack.Writer{}
		for i, v := range values {
			got := readLike(r, v)
			if !r.Good() || !reflect.DeepEqual(got, v) {
				t.Fatalf("round %d, value %d: %v, want %v", round, i, got, v)
			}
			write(again, got)
			wantRest(t, "behind a value", r, s[len(again.String()):])
		}
		if !r.End() {
			t.Errorf("round %d: %q is left", round, r.Rest())
		}
		wantWritten(t, "written again", again, s)
	}
}

func TestDifferentValuesHaveDifferentEncodings(t *testing.T) {
	seen := map[string]bool{}
	for n := range uint64(70000) {
		s := new(pack.Writer).Num(n).String()
		if seen[s] {
			t.Errorf("%d has the encoding of another number", n)
		}
		seen[s] = true
	}
	seen = map[string]bool{}
	everyString("\x00\x01a", 3, func(a string) {
		everyString("\x00\x01a", 3, func(b string) {
			s := new(pack.Writer).Row([]string{a, b}).String()
			if seen[s] {
				t.Errorf("%q and %q have the encoding of another list", a, b)
			}
			seen[s] = true
		})
	})
}

// FuzzPromises holds all calls against the document's words.
func FuzzPromises(f *testing.F) {
	f.Add("\xac\x02", uint64(300), 1, 1, "a", "")
	f.Add("\x80\x00\x01", uint64(greatest), -1, -1, "", "\xff")
	f.Add("\x02\x01a\x02bc", uint64(0), math.MaxInt, math.MinInt, "abc", "d")
	f.Fuzz(func(t *testing.T, s string, n uint64, many, most int, a, b string) {
		hold(t, s, n, many, most)
		hold(t, ofRow([]string{a, b})+s, n, many, most)
		w := new(pack.Writer).Num(n).Text(a, b).Row([]string{a, b, s})
		wantWritten(t, "all", w, ofNumber(n)+ofText(a)+ofText(b)+ofRow([]string{a, b, s}))
		r := pack.Read(w.String())
		if got := r.Num(n); got != n {
			t.Errorf("Num(%d): %d", n, got)
		}
		if x, y := r.Text(len(a)), r.Text(len(b)); x != a || y != b {
			t.Errorf("Text: %q and %q, want %q and %q", x, y, a, b)
		}
		if l := r.Row(3, max(len(a), len(b), len(s))); !slices.Equal(l, []string{a, b, s}) || !r.End() {
			t.Errorf("Row: %q, and %q is left", l, r.Rest())
		}
	})
}
