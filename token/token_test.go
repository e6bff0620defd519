package token_test

import (
	"encoding/base32"
	"fmt"
	"math"
	"math/rand"
	"slices"
	"strings"
	"testing"
	"unicode/utf8"

	"homecoming/token"
)

// alphabet holds the digits of base 32, by their values.
const alphabet = "abcdefghijklmnopqrstuvwxyz234567"

// library is base 32 by the library.
var library = base32.NewEncoding(alphabet).WithPadding(base32.NoPadding)

// some is n bytes, always the same.
func some(n int) string {
	b := make([]byte, n)
	rand.New(rand.NewSource(int64(n))).Read(b)
	return string(b)
}

// draws is n draws of ten bytes, always the same, behind some in which each byte is the same.
func draws(n int) []string {
	var l []string
	for b := range 256 {
		l = append(l, strings.Repeat(char(b), 10))
	}
	source := rand.New(rand.NewSource(8))
	for range n {
		b := make([]byte, 10)
		source.Read(b)
		l = append(l, string(b))
	}
	return l
}

// char is a string of one byte.
func char(b int) string {
	return string([]byte{byte(b)})
}

// with is s with something else in the place of its byte at i.
func with(s string, i int, other string) string {
	return s[:i] + other + s[i+1:]
}

// isDigit reports whether the byte is a digit of base 32.
func isDigit(b int) bool {
	return strings.IndexByte(alphabet, byte(b)) >= 0
}

// encoded is Encode by the document's words: the bits of s as a text, five by five.
func encoded(s string) string {
	var bits, all strings.Builder
	for i := range len(s) {
		fmt.Fprintf(&bits, "%08b", s[i])
	}
	for bits.Len()%5 != 0 {
		bits.WriteByte('0')
	}
	for five := range slices.Chunk([]byte(bits.String()), 5) {
		value := 0
		for _, bit := range five {
			value = 2*value + int(bit-'0')
		}
		all.WriteByte(alphabet[value])
	}
	return all.String()
}

// decoded is Decode by the library. That passes over newlines, and over the bits behind the last byte.
func decoded(s string) (string, bool) {
	b, err := library.DecodeString(s)
	if err != nil || encoded(string(b)) != s {
		return "", false
	}
	return string(b), true
}

// strangeTexts are strings that are not of digits, or not of such alone: beside bytes, runes that could be
// taken for digits if only some of their bits were looked at, or if they were folded.
var strangeTexts = []string{
	" ", "\t", "\n", "\r", "\x00", "=", "-", "_", "+", "/", "0", "1", "8", "9", "A", "Z", "@", "[", "`", "{",
	"\x7f", "\x80", "\xbf", "\xc3", "\xe1\x80", "\xff", "\xfe\xff", "\xc0\xa1", "\xe0\x81\xa1", "\xed\xa0\x80", "\xf4\x90\x80\x80",
	"ä", "š", "ı", "ſ", "\u212a", "\u0132", "\u0232", "\u0432", "\u0661", "\uff41", "\uff12", "\ufffd", "\U00010061", "\U00010032", "\U0010ffff",
}

// strangeStrings are strange texts alone, and ahead of, within and behind digits.
func strangeStrings() []string {
	var l []string
	for _, s := range strangeTexts {
		l = append(l, s, s+s, "a"+s, "my"+s, s+"my", "m"+s+"y", "mzxw6ytb"+s, s+"mzxw6ytb", "mzxw"+s+"6ytb", s+"mzxw6ytboi", "mzxw6ytboi"+s)
		for i := range 16 {
			l = append(l, with("mzxw6ytboiqgiyls", i, s))
		}
	}
	return l
}

func wantString(t *testing.T, what, got, want string) {
	t.Helper()
	if got != want {
		t.Errorf("%s: %q, want %q", what, got, want)
	}
}

func wantTruth(t *testing.T, what string, got, want bool) {
	t.Helper()
	if got != want {
		t.Errorf("%s: %v, want %v", what, got, want)
	}
}

// wantDecoded asks that Decode of s returns a string.
func wantDecoded(t *testing.T, s, want string) {
	t.Helper()
	if got, ok := token.Decode(s); !ok || got != want {
		t.Errorf("Decode(%q): %q, %v, want %q, true", s, got, ok, want)
	}
}

// wantNone asks that Decode of s tells that there is none.
func wantNone(t *testing.T, s string) {
	t.Helper()
	if got, ok := token.Decode(s); ok || got != "" {
		t.Errorf("Decode(%q): %q, %v, want an empty string, false", s, got, ok)
	}
}

// P8.1: Encode

// published holds strings whose digits were published.
var published = []struct{ s, digits string }{
	{"", ""},
	{"f", "my"},
	{"fo", "mzxq"},
	{"foo", "mzxw6"},
	{"foob", "mzxw6yq"},
	{"fooba", "mzxw6ytb"},
	{"foobar", "mzxw6ytboi"},
	{"sure.", "on2xezjo"},
	{"asure.", "mfzxk4tffy"},
	{"easure.", "mvqxg5lsmuxa"},
	{"leasure.", "nrswc43vojss4"},
	{"Hello!\xde\xad\xbe\xef", "jbswy3dpehpk3pxp"},
	{"12345678901234567890", "gezdgnbvgy3tqojqgezdgnbvgy3tqojq"},
	{"Twas brillig, and the slithy toves", "kr3wc4zamjzgs3dmnftsyidbnzsca5dimuqhg3djoruhsidun53gk4y"},
	{"\x00\x44\x32\x14\xc7\x42\x54\xb6\x35\xcf\x84\x65\x3a\x56\xd7\xc6\x75\xbe\x77\xdf", alphabet},
}

func TestEncodeOfPublishedStrings(t *testing.T) {
	for _, p := range published {
		wantString(t, fmt.Sprintf("Encode(%q)", p.s), token.Encode(p.s), p.digits)
	}
}

func TestEncodeOfBytesZeroAndOfBytesFF(t *testing.T) {
	zeros := []string{"", "aa", "aaaa", "aaaaa", "aaaaaaa", "aaaaaaaa", "aaaaaaaaaa"}
	ones := []string{"", "74", "777q", "77776", "777777y", "77777777", "7777777774"}
	for n := range zeros {
		wantString(t, fmt.Sprintf("%d bytes 00", n), token.Encode(strings.Repeat("\x00", n)), zeros[n])
		wantString(t, fmt.Sprintf("%d bytes ff", n), token.Encode(strings.Repeat("\xff", n)), ones[n])
	}
	wantString(t, "00 ff", token.Encode("\x00\xff"), "ad7q")
	wantString(t, "ff 00", token.Encode("\xff\x00"), "74aa")
}

func TestEncodeIsThatOfTheDocumentsWords(t *testing.T) {
	for n := range 300 {
		s := some(n)
		got := token.Encode(s)
		wantString(t, fmt.Sprintf("Encode(%q)", s), got, encoded(s))
		wantString(t, fmt.Sprintf("Encode(%q), by the library", s), got, library.EncodeToString([]byte(s)))
	}
	for _, n := range []int{1 << 12, 1<<16 - 1, 1 << 16, 1 << 20} {
		wantTruth(t, fmt.Sprintf("Encode of %d bytes", n), token.Encode(some(n)) == library.EncodeToString([]byte(some(n))), true)
	}
}

func TestEncodeOfEachByteAtEachPlace(t *testing.T) {
	for n := 1; n <= 10; n++ {
		for i := range n {
			for b := range 256 {
				s := with(some(n), i, char(b))
				wantString(t, fmt.Sprintf("Encode(%q)", s), token.Encode(s), encoded(s))
			}
		}
	}
}

func TestEncodeOfStringsThatAreNotValidUTF8(t *testing.T) {
	for _, s := range strangeStrings() {
		wantString(t, fmt.Sprintf("Encode(%q)", s), token.Encode(s), encoded(s))
	}
}

// P8.1: Decode

func TestDecodeOfPublishedStrings(t *testing.T) {
	for _, p := range published {
		wantDecoded(t, p.digits, p.s)
	}
}

func TestDecodeOfEachLength(t *testing.T) {
	for n := range 100 {
		s := strings.Repeat("a", n)
		switch n % 8 {
		case 1, 3, 6: // no number of bytes has so many digits
			wantNone(t, s)
			wantNone(t, strings.Repeat("7", n))
		default:
			wantDecoded(t, s, strings.Repeat("\x00", n*5/8))
		}
	}
}

func TestDecodeOfEveryStringOfOneDigitAndOfThree(t *testing.T) {
	for a := range 32 {
		wantNone(t, alphabet[a:a+1])
		for b := range 32 {
			for c := range 32 {
				wantNone(t, string([]byte{alphabet[a], alphabet[b], alphabet[c]}))
			}
		}
	}
}

func TestDecodeOfSixDigits(t *testing.T) {
	for n := range 1000 {
		digits := library.EncodeToString([]byte(some(n + 4)))
		wantNone(t, digits[:6])
	}
}

// Of two bytes, there is none but those that are the digits of one byte.
func TestDecodeOfEveryStringOfTwoBytes(t *testing.T) {
	byDigits := map[string]string{}
	for b := range 256 {
		byDigits[encoded(char(b))] = char(b)
	}
	for a := range 256 {
		for b := range 256 {
			s := char(a) + char(b)
			if want, ok := byDigits[s]; ok {
				wantDecoded(t, s, want)
			} else {
				wantNone(t, s)
			}
		}
	}
}

func TestDecodeOfALastDigitWhoseAppendedBitsAreNotZero(t *testing.T) {
	wantNone(t, "mz")
	appended := [5]int{0, 2, 4, 1, 3} // by the number of bytes: so many bits
	for n := 1; n <= 20; n++ {
		s := some(n)
		digits := encoded(s)
		for value := range 32 {
			turned := with(digits, len(digits)-1, alphabet[value:value+1])
			if value%(1<<appended[n%5]) != 0 {
				wantNone(t, turned)
				continue
			}
			last, ok := token.Decode(turned)
			wantTruth(t, fmt.Sprintf("Decode(%q)", turned), ok && last[:n-1] == s[:n-1] && encoded(last) == turned, true)
		}
	}
}

func TestDecodeOfDigitsAndAnotherBehindThem(t *testing.T) {
	for n := range 20 {
		digits := encoded(some(n))
		for _, behind := range []string{"a", "aa", "aaa", "7", "77"} {
			s := digits + behind
			if want, ok := decoded(s); ok {
				wantDecoded(t, s, want)
			} else {
				wantNone(t, s)
			}
		}
	}
}

func TestDecodeOfEachByteAtEachPlace(t *testing.T) {
	for n := 1; n <= 10; n++ {
		digits := encoded(some(n))
		for i := range digits {
			for b := range 256 {
				s := with(digits, i, char(b))
				if want, ok := decoded(s); ok {
					wantDecoded(t, s, want)
				} else {
					wantNone(t, s)
				}
				if !isDigit(b) {
					wantNone(t, s)
					wantNone(t, digits[:i]+char(b)+digits[i:])
				}
			}
		}
	}
}

func TestDecodeOfCapitalLetters(t *testing.T) {
	wantNone(t, "mZ")
	wantNone(t, "MY")
	wantNone(t, "MZXW6YTBOI")
	for _, p := range published {
		if upper := strings.ToUpper(p.digits); upper != p.digits {
			wantNone(t, upper)
		}
		for i := range p.digits {
			if upper := strings.ToUpper(p.digits[i : i+1]); upper != p.digits[i:i+1] {
				wantNone(t, with(p.digits, i, upper))
			}
		}
	}
}

func TestDecodeOfPaddingAndOfBlanks(t *testing.T) {
	padded := base32.NewEncoding(alphabet)
	for n := range 30 {
		s := some(n)
		if n%5 != 0 {
			wantNone(t, padded.EncodeToString([]byte(s)))
		}
		for _, other := range []string{"=", "\n", "\r\n", " ", "\t", "-", "\x00"} {
			wantNone(t, encoded(s)+other)
			wantNone(t, other+encoded(s))
		}
	}
}

func TestDecodeOfStrangeStrings(t *testing.T) {
	for _, s := range strangeStrings() {
		wantNone(t, s)
	}
}

func TestDecodeOfLongStrings(t *testing.T) {
	for _, n := range []int{1 << 12, 1<<16 - 1, 1 << 16, 1 << 20} {
		s := some(n)
		digits := library.EncodeToString([]byte(s))
		got, ok := token.Decode(digits)
		wantTruth(t, fmt.Sprintf("Decode of the digits of %d bytes", n), ok && got == s, true)
		for _, wrong := range []string{digits + "=", "=" + digits, digits + "\xff", with(digits, len(digits)/2, "A")} {
			got, ok := token.Decode(wrong)
			wantTruth(t, fmt.Sprintf("Decode of the digits of %d bytes, and another", n), ok || got != "", false)
		}
	}
}

// P8.2: Token

func TestToken(t *testing.T) {
	wantString(t, "a token", token.Token("Hello!\xde\xad\xbe\xef"), "jbswy3dpehpk3pxp")
	wantString(t, "the least one", token.Token(strings.Repeat("\x00", 10)), "aaaaaaaaaaaaaaaa")
	wantString(t, "the greatest one", token.Token(strings.Repeat("\xff", 10)), "7777777777777777")
	for _, draw := range draws(1000) {
		wantString(t, fmt.Sprintf("Token(%q)", draw), token.Token(draw), encoded(draw))
	}
}

func TestTokenOfDrawsOfOtherLengths(t *testing.T) {
	for n := range 300 {
		if n != 10 {
			wantString(t, fmt.Sprintf("Token of %d bytes", n), token.Token(some(n)), "")
			wantString(t, fmt.Sprintf("Token of %d bytes 00", n), token.Token(strings.Repeat("\x00", n)), "")
		}
	}
	wantString(t, "Token of ten runes", token.Token("ääääääääää"), "")
	wantString(t, "Token of five runes", token.Token("äääää"), encoded("äääää"))
}

// P8.2: IsToken

func TestIsTokenOfTokens(t *testing.T) {
	for _, draw := range draws(1000) {
		wantTruth(t, fmt.Sprintf("IsToken of the token of %q", draw), token.IsToken(encoded(draw)), true)
		wantTruth(t, fmt.Sprintf("IsToken of %q", draw), token.IsToken(draw), false)
	}
}

func TestIsTokenOfEachLength(t *testing.T) {
	for n := range 100 {
		for _, digit := range []string{"a", "m", "z", "2", "7"} {
			s := strings.Repeat(digit, n)
			wantTruth(t, fmt.Sprintf("IsToken(%q)", s), token.IsToken(s), n == 16)
		}
	}
	for n := range 100 {
		wantTruth(t, fmt.Sprintf("IsToken of the digits of %d bytes", n), token.IsToken(encoded(some(n))), n == 10)
	}
}

// All strings of sixteen digits are tokens, as these have just the bits of ten bytes.
func TestIsTokenOfEachByteAtEachPlace(t *testing.T) {
	const s = "mzxw6ytboiqgiyls"
	for i := range s {
		for b := range 256 {
			turned := with(s, i, char(b))
			wantTruth(t, fmt.Sprintf("IsToken(%q)", turned), token.IsToken(turned), isDigit(b))
		}
	}
}

func TestIsTokenOfStrangeStrings(t *testing.T) {
	for _, s := range strangeStrings() {
		wantTruth(t, fmt.Sprintf("IsToken(%q)", s), token.IsToken(s), false)
	}
	for _, s := range []string{
		"MZXW6YTBOIQGIYLS", "Mzxw6ytboiqgiyls", "mzxw6ytboiqgiylS", "mzxw-6ytb-oiqg-iyls", "mzxw6ytboiqgiyls\n", " mzxw6ytboiqgiyls",
		"mzxw6ytboiqgiyä", "mzxw6ytboiqgiylä", "ääääääää", "aaaaaaaaaaaaaaa=", "aaaaaaaaaaaaaa==", "0000000000000000", strings.Repeat("a", 1<<20),
	} {
		if got := token.IsToken(s); got {
			t.Errorf("IsToken of %d bytes, %.40q: true, want false", len(s), s)
		}
	}
}

// P8.2: Code

func TestCode(t *testing.T) {
	for _, c := range []struct {
		draw uint64
		code string
	}{
		{0, "000000"}, {7, "000007"}, {10, "000010"}, {99999, "099999"}, {100000, "100000"}, {123456, "123456"}, {999999, "999999"},
		{1000000, "000000"}, {1000007, "000007"}, {1999999, "999999"}, {12000345, "000345"}, {math.MaxInt32, "483647"}, {math.MaxUint32, "967295"},
		{1 << 32, "967296"}, {math.MaxInt64, "775807"}, {1 << 63, "775808"}, {math.MaxUint64 - 1, "551614"}, {math.MaxUint64, "551615"},
	} {
		wantString(t, fmt.Sprintf("Code(%d)", c.draw), token.Code(c.draw), c.code)
	}
}

func TestCodeOfManyDraws(t *testing.T) {
	source := rand.New(rand.NewSource(8))
	for bit := range 64 {
		for range 200 {
			draw := source.Uint64() >> bit
			wantString(t, fmt.Sprintf("Code(%d)", draw), token.Code(draw), fmt.Sprintf("%06d", draw%1000000))
		}
	}
	for draw := uint64(0); draw < 1000000; draw += 37 {
		wantString(t, fmt.Sprintf("Code(%d)", draw), token.Code(draw), fmt.Sprintf("%06d", draw))
	}
}

// P8.2: IsCode

func TestIsCodeOfCodes(t *testing.T) {
	for draw := uint64(0); draw < 1000000; draw += 37 {
		code := fmt.Sprintf("%06d", draw)
		wantTruth(t, fmt.Sprintf("IsCode(%q)", code), token.IsCode(code), true)
	}
	for _, code := range []string{"000000", "000345", "000001", "100000", "999999"} {
		wantTruth(t, fmt.Sprintf("IsCode(%q)", code), token.IsCode(code), true)
	}
}

func TestIsCodeOfEachLength(t *testing.T) {
	for n := range 100 {
		for digit := range 10 {
			s := strings.Repeat(fmt.Sprint(digit), n)
			wantTruth(t, fmt.Sprintf("IsCode(%q)", s), token.IsCode(s), n == 6)
		}
	}
	wantTruth(t, "IsCode of a million digits", token.IsCode(strings.Repeat("0", 1000000)), false)
}

func TestIsCodeOfEachByteAtEachPlace(t *testing.T) {
	const s = "012345"
	for i := range s {
		for b := range 256 {
			turned := with(s, i, char(b))
			wantTruth(t, fmt.Sprintf("IsCode(%q)", turned), token.IsCode(turned), '0' <= b && b <= '9')
		}
	}
}

func TestIsCodeOfStrangeStrings(t *testing.T) {
	for _, s := range []string{
		"+12345", "-12345", " 12345", "12345 ", "12345\n", "123456\n", "\n123456", " 123456", "1_2345", "0x1234", "1e1234", "123.45", "12 345", "123 456", "123-456",
		"abcdef", "aaaaaa", "two234", "\u0661\u0662\u0663", "\u0661\u0662\u0663\u0664\u0665\u0666", "\u0967\u0968", "\uff11\uff12", "\uff11\uff12\uff13\uff14\uff15\uff16",
		"²³¹", "1234ä", "12345\xb9", "12345\xff", "\xff\xff\xff\xff\xff\xff", "\x00\x01\x02\x03\x04\x05",
	} {
		wantTruth(t, fmt.Sprintf("IsCode(%q)", s), token.IsCode(s), false)
	}
	for _, s := range strangeTexts {
		if strings.Trim(s, "0123456789") == "" {
			continue
		}
		for i := range 6 {
			turned := with("012345", i, s)
			wantTruth(t, fmt.Sprintf("IsCode(%q)", turned), token.IsCode(turned), false)
		}
	}
}

// P8.2: Clean

// cleaned is Clean of one byte by the document's words.
func cleaned(b int) string {
	switch {
	case b == 0x20 || b == 0x09 || b == 0x2d:
		return ""
	case 0x41 <= b && b <= 0x5a:
		return char(b + 0x20)
	default:
		return char(b)
	}
}

func TestClean(t *testing.T) {
	for _, c := range []struct{ s, clean string }{
		{"", ""}, {" ", ""}, {"\t", ""}, {"-", ""}, {" \t- -\t ", ""}, {"AB c-d\t2", "abcd2"}, {"MZXW-6YTB-OIQG-IYLS", "mzxw6ytboiqgiyls"},
		{" mzxw 6ytb\toiqg iyls ", "mzxw6ytboiqgiyls"}, {"123 456", "123456"}, {"123-456", "123456"},
		{"ABCDEFGHIJKLMNOPQRSTUVWXYZ", "abcdefghijklmnopqrstuvwxyz"}, {"abcdefghijklmnopqrstuvwxyz", "abcdefghijklmnopqrstuvwxyz"},
		{"0123456789", "0123456789"}, {"a\nb", "a\nb"}, {"\r\n\v\f", "\r\n\v\f"}, {"A \nB", "a\nb"}, {"\x00A\x00", "\x00a\x00"}, {"@[`{", "@[`{"}, {"_=+/.,", "_=+/.,"},
		{"\u00a0", "\u00a0"}, {"\u2003\u2028", "\u2003\u2028"}, {"\u2010\u2013\u2014\u2212", "\u2010\u2013\u2014\u2212"}, {"ÄÖÜ", "ÄÖÜ"}, {"\u212aİAΣ", "\u212aİaΣ"}, {"\uff21\uff3a", "\uff21\uff3a"},
		{"\xff", "\xff"}, {"\x80A\xc3 \xff-", "\x80a\xc3\xff"}, {"\xc3\x28", "\xc3\x28"}, {"\xc0\xa0\xe2\x80", "\xc0\xa0\xe2\x80"}, {"\xed\xa0\x80\xc1\x81", "\xed\xa0\x80\xc1\x81"}, {"\ufffd", "\ufffd"},
	} {
		wantString(t, fmt.Sprintf("Clean(%q)", c.s), token.Clean(c.s), c.clean)
	}
}

func TestCleanOfEachByte(t *testing.T) {
	for b := range 256 {
		wantString(t, fmt.Sprintf("Clean of %02x", b), token.Clean(char(b)), cleaned(b))
		for other := range 256 {
			s := char(b) + char(other)
			wantString(t, fmt.Sprintf("Clean(%q)", s), token.Clean(s), cleaned(b)+cleaned(other))
		}
	}
}

func TestCleanIsThatOfItsBytes(t *testing.T) {
	for n := range 300 {
		s, want := some(n), ""
		for i := range len(s) {
			want += cleaned(int(s[i]))
		}
		wantString(t, fmt.Sprintf("Clean(%q)", s), token.Clean(s), want)
		wantString(t, fmt.Sprintf("Clean(%q) once more", s), token.Clean(want), want)
	}
	wantTruth(t, "Clean of a long string", token.Clean(strings.Repeat("A -\t\n\xff", 1<<18)) == strings.Repeat("a\n\xff", 1<<18), true)
}

// P8.2: Group

func TestGroup(t *testing.T) {
	for _, c := range []struct {
		s       string
		n       int
		grouped string
	}{
		{"mzxw6ytboiqgiyls", 4, "mzxw-6ytb-oiqg-iyls"}, {"123456", 3, "123-456"}, {"mzxw6ytboi", 4, "mzxw-6ytb-oi"},
		{"abc", 1, "a-b-c"}, {"abc", 2, "ab-c"}, {"abc", 3, "abc"}, {"abc", 4, "abc"}, {"abc", math.MaxInt, "abc"}, {"abc", math.MaxInt - 1, "abc"}, {"abcd", 2, "ab-cd"},
		{"abc", 0, "abc"}, {"abc", -1, "abc"}, {"abc", -3, "abc"}, {"abc", math.MinInt, "abc"}, {"abc", math.MinInt + 1, "abc"}, {"a", 1, "a"}, {"ab", 1, "a-b"},
		{"", 0, ""}, {"", 1, ""}, {"", -1, ""}, {"", 4, ""}, {"", math.MaxInt, ""}, {"", math.MinInt, ""},
		{"-", 1, "-"}, {"--", 1, "---"}, {"a-b", 1, "a---b"}, {"ab-", 2, "ab--"}, {"A b", 2, "A -b"},
		{"ä", 1, "\xc3-\xa4"}, {"äö", 2, "ä-ö"}, {"\xff\xff", 1, "\xff-\xff"}, {"\x00\x00", 1, "\x00-\x00"}, {"a\n", 1, "a-\n"},
	} {
		wantString(t, fmt.Sprintf("Group(%q, %d)", c.s, c.n), token.Group(c.s, c.n), c.grouped)
	}
}

func TestGroupOfEachLengthAndEachSize(t *testing.T) {
	for size := range 40 {
		s := some(size)
		for n := -3; n < 45; n++ {
			want := ""
			for i := range len(s) {
				if i > 0 && n >= 1 && i%n == 0 {
					want += "-"
				}
				want += s[i : i+1]
			}
			wantString(t, fmt.Sprintf("Group(%q, %d)", s, n), token.Group(s, n), want)
		}
	}
	long := token.Group(strings.Repeat("a", 1<<20), 1)
	wantTruth(t, "Group of a long string", long == strings.Repeat("a-", 1<<20-1)+"a", true)
}

// P8.3

func TestDecodeInvertsEncode(t *testing.T) {
	for n := range 300 {
		wantDecoded(t, token.Encode(some(n)), some(n))
		wantDecoded(t, token.Encode(strings.Repeat("\x00", n)), strings.Repeat("\x00", n))
		wantDecoded(t, token.Encode(strings.Repeat("\xff", n)), strings.Repeat("\xff", n))
	}
	for a := range 256 {
		wantDecoded(t, token.Encode(char(a)), char(a))
		for b := range 256 {
			wantDecoded(t, token.Encode(char(a)+char(b)), char(a)+char(b))
		}
	}
	for _, s := range strangeStrings() {
		wantDecoded(t, token.Encode(s), s)
	}
}

func TestEncodeInvertsDecode(t *testing.T) {
	source := rand.New(rand.NewSource(8))
	for range 100000 {
		digits := make([]byte, source.Intn(20))
		for i := range digits {
			digits[i] = alphabet[source.Intn(32)]
		}
		if s, ok := token.Decode(string(digits)); ok {
			wantString(t, fmt.Sprintf("Encode of what %q is decoded to", digits), token.Encode(s), string(digits))
		} else {
			wantString(t, fmt.Sprintf("what %q is decoded to", digits), s, "")
		}
	}
}

// Beside some digits, the bytes are those that a lenient decoding takes for one of them, or passes over.
func TestNoStringIsDecodedFromTwoStrings(t *testing.T) {
	const bytes = "abmqyz2367ABMYZ0189=- \n\t\x00\x80\xff"
	from := map[string]string{}
	var all func(s string, more int)
	all = func(s string, more int) {
		if d, ok := token.Decode(s); ok {
			if was, seen := from[d]; seen {
				t.Errorf("%q is decoded from %q and from %q", d, was, s)
			}
			from[d] = s
		}
		for i := 0; more > 0 && i < len(bytes); i++ {
			all(s+bytes[i:i+1], more-1)
		}
	}
	all("", 4)
}

func TestEveryStringOfTwoBytesIsDecodedFromOneOfFourDigits(t *testing.T) {
	from := map[string]string{}
	digits := make([]byte, 4)
	for n := range 1 << 20 {
		for i := range digits {
			digits[i] = alphabet[n>>(5*i)&31]
		}
		s := string(digits)
		d, ok := token.Decode(s)
		if !ok {
			continue
		}
		if was, seen := from[d]; seen || len(d) != 2 {
			t.Fatalf("%q is decoded from %q and from %q", d, was, s)
		}
		from[d] = s
	}
	if len(from) != 1<<16 {
		t.Errorf("%d strings are decoded, want %d", len(from), 1<<16)
	}
}

func TestCleaningATokenDoesNotChangeIt(t *testing.T) {
	for _, draw := range draws(1000) {
		s := token.Token(draw)
		wantString(t, fmt.Sprintf("Clean(%q)", s), token.Clean(s), s)
		for n := -1; n < 18; n++ {
			wantString(t, fmt.Sprintf("Clean of %q in groups of %d", s, n), token.Clean(token.Group(s, n)), s)
		}
		wantString(t, fmt.Sprintf("Clean of %q in capital letters", s), token.Clean(strings.ToUpper(s)), s)
	}
}

func TestCleaningACodeDoesNotChangeIt(t *testing.T) {
	for draw := uint64(0); draw < 1000000; draw += 997 {
		code := token.Code(draw)
		wantString(t, fmt.Sprintf("Clean(%q)", code), token.Clean(code), code)
		wantString(t, fmt.Sprintf("Clean of %q in groups", code), token.Clean(token.Group(code, 3)), code)
	}
}

func TestSecretsAreWhatTheyAreAskedToBe(t *testing.T) {
	for i, draw := range draws(1000) {
		wantTruth(t, fmt.Sprintf("IsToken of the token of %q", draw), token.IsToken(token.Token(draw)), true)
		wantTruth(t, fmt.Sprintf("IsCode of the token of %q", draw), token.IsCode(token.Token(draw)), false)
		number := uint64(i) * 0x9e3779b97f4a7c15
		wantTruth(t, fmt.Sprintf("IsCode of the code of %d", number), token.IsCode(token.Code(number)), true)
		wantTruth(t, fmt.Sprintf("IsToken of the code of %d", number), token.IsToken(token.Code(number)), false)
	}
}

// P1, R4

func TestEqualCallsReturnEqualResults(t *testing.T) {
	numbers := []int{math.MinInt, -1, 0, 1, 2, 3, 16, 1 << 20, math.MaxInt}
	answers := func(s string) string {
		d, ok := token.Decode(s)
		l := fmt.Sprint(token.Encode(s), d, ok, token.Token(s), token.IsToken(s), token.IsCode(s), token.Clean(s))
		for _, n := range numbers {
			l += fmt.Sprint(token.Group(s, n), token.Code(uint64(n)))
		}
		return l
	}
	strs := strangeStrings()
	for n := range 100 {
		strs = append(strs, some(n), encoded(some(n)))
	}
	var first []string
	for _, s := range strs {
		first = append(first, answers(s))
	}
	for i, s := range strs {
		wantString(t, fmt.Sprintf("the answers for %q, once more", s), answers(strings.Clone(s)), first[i])
	}
}

func TestDigitsAndCodesAreValidTexts(t *testing.T) {
	for n := range 100 {
		digits := token.Encode(some(n))
		wantTruth(t, fmt.Sprintf("%q is of digits alone", digits), utf8.ValidString(digits) && strings.Trim(digits, alphabet) == "", true)
	}
}
