package address_test

import (
	"fmt"
	"math/rand"
	"regexp"
	"strings"
	"testing"
	"unicode/utf8"

	"homecoming/address"
	"homecoming/api"
)

// A model by the document's words, in regular expressions.
var (
	mailPattern  = regexp.MustCompile(`\A([a-z0-9_-]+(?:\.[a-z0-9_-]+)*)@((?:[a-z0-9](?:[a-z0-9-]{0,18}[a-z0-9])?\.)+[a-z0-9](?:[a-z0-9-]{0,18}[a-z0-9])?)\z`)
	phonePattern = regexp.MustCompile(`\A\+[1-9][0-9]{7,14}\z`)
	endsPattern  = regexp.MustCompile(`\A[ \t]+|[ \t]+\z`)
	tagPattern   = regexp.MustCompile(`(?s)\A([^+]*)\+[^@]*(@.*)\z`)
	noisePattern = regexp.MustCompile(`[ \t().-]`)
)

// modelSplit is Split by the model.
func modelSplit(s string) (string, string, bool) {
	parts := mailPattern.FindStringSubmatch(s)
	if parts == nil || len(s) > 40 {
		return "", "", false
	}
	return parts[1], parts[2], true
}

// modelMail is Mail by the model.
func modelMail(s string) (string, bool) {
	s = endsPattern.ReplaceAllString(s, "")
	for b := 'A'; b <= 'Z'; b++ {
		s = strings.ReplaceAll(s, string(b), string(b-'A'+'a'))
	}
	if parts := tagPattern.FindStringSubmatch(s); parts != nil {
		s = parts[1] + parts[2]
	}
	if _, _, ok := modelSplit(s); !ok {
		return "", false
	}
	return s, true
}

// modelPhone is Phone by the model.
func modelPhone(s string) (string, bool) {
	s = noisePattern.ReplaceAllString(s, "")
	if !phonePattern.MatchString(s) {
		return "", false
	}
	return s, true
}

// modelAny is Any by the model.
func modelAny(s string) (string, bool) {
	if mail, ok := modelMail(s); ok {
		return mail, true
	}
	return modelPhone(s)
}

// modelKind is Kind by the model.
func modelKind(s string) int {
	if _, _, ok := modelSplit(s); ok {
		return 1
	}
	if phonePattern.MatchString(s) {
		return 2
	}
	return 0
}

// modelMask is Mask by the model.
func modelMask(s string) string {
	switch modelKind(s) {
	case 1:
		return s[:1] + "***" + s[strings.Index(s, "@"):]
	case 2:
		return "+***" + s[len(s)-2:]
	default:
		return "***"
	}
}

// call is what a call of Mail, Phone or Any returned.
func call(s string, ok bool) string {
	return fmt.Sprintf("%q %v", s, ok)
}

// parted is what a call of Split returned.
func parted(name, host string, ok bool) string {
	return fmt.Sprintf("%q %q %v", name, host, ok)
}

// want asks that a call for s returned something.
func want(t *testing.T, what, s, got, want string) {
	t.Helper()
	if got == want {
		return
	}
	if len(s) > 200 {
		s = s[:200] + " and so on"
	}
	t.Errorf("%s(%q): %s, want %s", what, s, got, want)
}

// wantModel asks that all calls for s return what the model does.
func wantModel(t *testing.T, s string) {
	t.Helper()
	want(t, "Mail", s, call(address.Mail(s)), call(modelMail(s)))
	want(t, "Phone", s, call(address.Phone(s)), call(modelPhone(s)))
	want(t, "Any", s, call(address.Any(s)), call(modelAny(s)))
	want(t, "Kind", s, fmt.Sprint(address.Kind(s)), fmt.Sprint(modelKind(s)))
	want(t, "Mask", s, address.Mask(s), modelMask(s))
	want(t, "Split", s, parted(address.Split(s)), parted(modelSplit(s)))
}

// wantMail asks that s is normalized to a mail address.
func wantMail(t *testing.T, s, mail string) {
	t.Helper()
	want(t, "Mail", s, call(address.Mail(s)), call(mail, true))
	want(t, "Any", s, call(address.Any(s)), call(mail, true))
	want(t, "Phone", s, call(address.Phone(s)), call("", false))
	wantModel(t, s)
	wantNormal(t, mail, api.Mail)
}

// wantPhone asks that s is normalized to a phone address.
func wantPhone(t *testing.T, s, phone string) {
	t.Helper()
	want(t, "Phone", s, call(address.Phone(s)), call(phone, true))
	want(t, "Any", s, call(address.Any(s)), call(phone, true))
	want(t, "Mail", s, call(address.Mail(s)), call("", false))
	wantModel(t, s)
	wantNormal(t, phone, api.Phone)
}

// wantNone asks that s is an address neither as it is nor when it is normalized.
func wantNone(t *testing.T, s string) {
	t.Helper()
	want(t, "Mail", s, call(address.Mail(s)), call("", false))
	want(t, "Phone", s, call(address.Phone(s)), call("", false))
	want(t, "Any", s, call(address.Any(s)), call("", false))
	wantStrange(t, s)
	wantModel(t, s)
}

// wantStrange asks that s is no address as it is.
func wantStrange(t *testing.T, s string) {
	t.Helper()
	want(t, "Kind", s, fmt.Sprint(address.Kind(s)), "0")
	want(t, "Mask", s, address.Mask(s), "***")
	want(t, "Split", s, parted(address.Split(s)), parted("", "", false))
}

// wantNormal asks that s is an address of that kind, and that normalizing does not change it.
func wantNormal(t *testing.T, s string, kind int) {
	t.Helper()
	want(t, "Kind", s, fmt.Sprint(address.Kind(s)), fmt.Sprint(kind))
	want(t, "Any", s, call(address.Any(s)), call(s, true))
	mail, phone := call("", false), call("", false)
	if kind == api.Mail {
		mail = call(s, true)
	} else {
		phone = call(s, true)
	}
	want(t, "Mail", s, call(address.Mail(s)), mail)
	want(t, "Phone", s, call(address.Phone(s)), phone)
}

// char is a string of one byte.
func char(b int) string {
	return string([]byte{byte(b)})
}

// as is n times a.
func as(n int) string {
	return strings.Repeat("a", n)
}

// strangeTexts are no part of any address: beside bytes, runes that become admissible if only some of
// their bits are looked at, or if they are folded.
var strangeTexts = []string{
	"\n", "\r", "\v", "\f", "\x00", "\x1f", "!", "\"", "#", "$", "%", "&", "'", "*", ",", "/", ":", ";", "<", "=", ">", "?", "[", "\\", "]", "^", "`", "{", "|", "}", "~", "\x7f",
	"\x80", "\x85", "\xa0", "\xad", "\xb9", "\xc1", "\xe1", "\xff", "\xfe\xff", "\xc0\xa0", "\xe0\x80\xa0", "\xed\xa0\x80", "\xf4\x90\x80\x80",
	"\u0085", "\u00a0", "\u2003", "\u3000", "\u00e4", "\u00c4", "\u0130", "\u0131", "\u017f", "\u212a", "\u0161", "\u0141", "\uff21", "\uff20", "\uff0b", "\uff0e", "\uff10", "\u0660", "\u2010", "\ufffd", "\U00010061", "\U0010ffff",
}

// P9.1

func TestMailOfTheDocument(t *testing.T) {
	wantMail(t, "Ann.B+news@Example.ORG", "ann.b@example.org")
	wantMail(t, " Ann.B+x@Example.Org\t", "ann.b@example.org")
	wantMail(t, "ann.b@example.org", "ann.b@example.org")
	wantMail(t, "a@b.c", "a@b.c")
}

func TestNothingIsNoAddress(t *testing.T) {
	for _, s := range []string{"", " ", "\t", " \t \t", "@", "+", "+@", "@+", ".", "-", "@.", ".@.", "a", "a.b", "0", "@@", "++", "***"} {
		wantNone(t, s)
	}
}

func TestMailWithBlanksAndTabsAtBothEnds(t *testing.T) {
	for _, ahead := range []string{"", " ", "\t", "  ", "\t\t", " \t \t", strings.Repeat(" ", 1000)} {
		for _, behind := range []string{"", " ", "\t", "  ", "\t\t", "\t \t ", strings.Repeat("\t", 1000)} {
			wantMail(t, ahead+"ann@example.org"+behind, "ann@example.org")
			wantMail(t, ahead+"Ann+x@example.org"+behind, "ann@example.org")
			if ahead+behind != "" {
				wantStrange(t, ahead+"ann@example.org"+behind)
			}
		}
	}
}

func TestMailWithBlanksAndTabsWithin(t *testing.T) {
	const mail = "ann@ex.org"
	for _, blank := range []string{" ", "\t"} {
		for i := 1; i < len(mail); i++ {
			wantNone(t, mail[:i]+blank+mail[i:])
		}
		wantNone(t, "ann"+blank+"+x@ex.org")
		wantMail(t, "ann+"+blank+"@ex.org", "ann@ex.org")
		wantMail(t, blank+"ann+"+blank+"x"+blank+"@ex.org"+blank, "ann@ex.org")
		wantNone(t, "ann+x@"+blank+"ex.org")
	}
}

func TestMailWithOtherBytesAtItsEnds(t *testing.T) {
	for _, s := range strangeTexts {
		wantNone(t, s+"ann@example.org")
		wantNone(t, "ann@example.org"+s)
		wantNone(t, " "+s+" ann@example.org")
		wantNone(t, "ann@example.org "+s+" ")
		wantNone(t, s)
	}
}

func TestMailWithEachByteAtEachPlace(t *testing.T) {
	for _, s := range []string{"a@b.c", "ann.b@ex-a.org", "a+x@b.c", "A_b+@B.C-d.e"} {
		for b := range 256 {
			for i := range len(s) + 1 {
				wantModel(t, s[:i]+char(b)+s[i:])
			}
			for i := range len(s) {
				wantModel(t, s[:i]+char(b)+s[i+1:])
			}
		}
	}
}

func TestMailWithStrangeTextsWithin(t *testing.T) {
	for _, s := range strangeTexts {
		for _, mail := range []string{"a" + s + "b@c.de", s + "@c.de", "ab@c" + s + "d.ef", "ab@" + s + ".ef", "ab@cd." + s, "ab" + s + "cd.ef", "ab" + s + "+x@cd.ef", "ab+x@c" + s + "d.ef"} {
			wantNone(t, mail)
		}
		wantMail(t, "ab+"+s+"@cd.ef", "ab@cd.ef")
		wantMail(t, "ab+x"+s+"+y@cd.ef", "ab@cd.ef")
	}
}

func TestMailInCapitalLetters(t *testing.T) {
	wantMail(t, "ABCDEFGHIJKLM@NOPQRSTUVW.XYZ", "abcdefghijklm@nopqrstuvw.xyz")
	wantMail(t, "ABCDEFGHIJKLM+TAG@NOPQRSTUVW.XYZ", "abcdefghijklm@nopqrstuvw.xyz")
	wantMail(t, "NOPQRSTUVWXYZ_0-9.A@ABCDEFGHIJ.KL-M.09", "nopqrstuvwxyz_0-9.a@abcdefghij.kl-m.09")
	for b := 'A'; b <= 'Z'; b++ {
		small := string(b - 'A' + 'a')
		wantMail(t, string(b)+"@x.org", small+"@x.org")
		wantMail(t, "x@"+string(b)+".org", "x@"+small+".org")
		wantMail(t, "x@org."+string(b), "x@org."+small)
		wantStrange(t, string(b)+"@x.org")
		wantStrange(t, "x@"+string(b)+".org")
	}
	for _, s := range []string{"@", "[", "`", "{"} { // the neighbors of the letters
		wantNone(t, "a"+s+"b@x.org")
	}
}

func TestNames(t *testing.T) {
	for _, name := range []string{
		"a", "z", "0", "9", "_", "-", "__", "--", "_-_", "-a", "a-", "_a", "a_", "a--b", "a__b", "-.-", "_._", "0.9", "42",
		"a.b", "a.b.c.d.e.f", "a-.b", "a.-b", "a._.b", "ann.b", "0a", "abcdefghijklmnopqrstuvwxyz_-.9", "0123456789",
	} {
		wantMail(t, name+"@ex.org", name+"@ex.org")
		wantMail(t, name+"+x@ex.org", name+"@ex.org")
	}
	for _, name := range []string{
		"", ".", "..", "...", ".a", "a.", ".a.", "a..b", "a...b", "..a", "a..", "a.b..c", "a.b.", ".a.b", "-.", "._", "a b", "a\tb", "a\nb", "a/b", "a(b)", "\"a\"", "a'b",
	} {
		wantNone(t, name+"@ex.org")
		wantNone(t, name+"+x@ex.org")
	}
}

func TestHosts(t *testing.T) {
	for _, host := range []string{
		"b.c", "0.9", "1.2.3.4", "ex.org", "a.b.c.d.e.f.g.h.i.j.k", "a-b.c", "a--b.c", "a.b-c", "a.b--c", "a-b.c-d.e-f", "0-9.a", "xn--a.b", "z.z", "a0.0a",
	} {
		wantMail(t, "ann@"+host, "ann@"+host)
		wantMail(t, "Ann+x@"+host, "ann@"+host)
	}
	for _, host := range []string{
		"", "b", "org", "a-b", ".", "..", ".b", "b.", ".b.c", "b.c.", "b..c", "b...c", "a.b..c", "a..b.c", ".b.", "b.c..", "..b.c",
		"-", "-.-", "-a.b", "a-.b", "a.-b", "a.b-", "-.a", "a.-", "a.-.b", "a.b-.c", "a.-b.c", "a-b.-", "a_b.c", "a.b_c", "_.a", "a._", "_a.b", "a.b_",
		"a b.c", "a.b c", "a\tb.c", "a+b.c", "a.b+c", "a.b+", "a.b:c", "[1.2]", "a,b.c", "a.b/c",
	} {
		wantNone(t, "ann@"+host)
		wantNone(t, "Ann+x@"+host)
	}
}

func TestLabelsOfEachLength(t *testing.T) {
	for n := 1; n <= 30; n++ {
		for _, label := range []string{as(n), strings.Repeat("0", n), "a" + strings.Repeat("-", max(n-2, 0)) + "b"} {
			for _, s := range []string{"a@" + label + ".c", "a@b." + label, "a@b." + label + ".c"} {
				if len(label) <= 20 {
					wantMail(t, s, s)
				} else {
					wantNone(t, s)
				}
			}
		}
	}
	wantMail(t, "a@"+as(20)+"."+as(17), "a@"+as(20)+"."+as(17))
	wantMail(t, "a@"+as(20)+"."+as(15)+".b", "a@"+as(20)+"."+as(15)+".b")
	wantMail(t, "A@"+strings.ToUpper(as(20))+".B", "a@"+as(20)+".b")
	wantNone(t, "A@"+strings.ToUpper(as(21))+".B")
}

func TestAddressesOfEachLength(t *testing.T) {
	for n := 1; n <= 60; n++ {
		for _, host := range []string{"b.c", "abcdefghijklmnopqrst.abcdefgh", "b.c.d.e.f.g.h.i.j.k.l.m"} {
			s := as(n) + "@" + host
			if len(s) <= 40 {
				wantMail(t, s, s)
			} else {
				wantNone(t, s)
			}
		}
	}
	wantMail(t, as(36)+"@b.c", as(36)+"@b.c") // 40 bytes
	wantNone(t, as(37)+"@b.c")                // 41
}

func TestAddressesOfEachLengthBeforeSomethingIsRemoved(t *testing.T) {
	whole, long := as(36)+"@b.c", as(37)+"@b.c" // of 40 and of 41 bytes
	for n := range 50 {
		blanks := strings.Repeat(" \t", n)
		wantMail(t, blanks+whole, whole)
		wantMail(t, whole+blanks, whole)
		wantMail(t, as(36)+"+"+strings.Repeat("x", n)+"@b.c", whole)
		wantMail(t, "a+"+strings.Repeat("x", n)+"@b.c", "a@b.c")
		wantNone(t, blanks+long)
		wantNone(t, long+blanks)
		wantNone(t, as(37)+"+"+strings.Repeat("x", n)+"@b.c")
	}
	wantStrange(t, " "+whole)
	wantStrange(t, whole+" ")
}

func TestAtSigns(t *testing.T) {
	for _, s := range []string{
		"ann", "ann.example.org", "@ex.org", "ann@", "@", "ann@@ex.org", "a@b@c.de", "a@b.c@d.e", "@a@b.c", "a@b.c@", "@@b.c", "a@@", "@a.b@", "a@b@c@d.e",
	} {
		wantNone(t, s)
	}
}

func TestPlusSigns(t *testing.T) {
	for s, mail := range map[string]string{
		"a+@b.c":           "a@b.c",
		"a+x@b.c":          "a@b.c",
		"a+x+y@b.c":        "a@b.c",
		"a++@b.c":          "a@b.c",
		"a+++x@b.c":        "a@b.c",
		"a.b+x.y@b.c":      "a.b@b.c",
		"a+..@b.c":         "a@b.c",
		"a+-@b.c":          "a@b.c",
		"a+ @b.c":          "a@b.c",
		"a+\n\xff@b.c":     "a@b.c",
		"a+(x)\"y@b.c":     "a@b.c",
		"-+x@b.c":          "-@b.c",
		"a+1234567@b.c":    "a@b.c",
		"a+491234567@be.c": "a@be.c",
	} {
		wantMail(t, s, mail)
		wantStrange(t, s)
	}
	for _, s := range []string{
		"+@b.c", "+x@b.c", "+a+b@b.c", "++@b.c", // the name is empty then
		"a+", "a+b", "a+b.c", "+b.c", "a+x+y", // no @
		"a@b.c+", "a@b.c+x", "a@b+x.c", "a@+b.c", "a@b.c+x+y", // no @ behind the +
		"a.+x@b.c", ".a+x@b.c", "a..b+x@b.c", ".+x@b.c", // the name is none then
		"a+x@@b.c", "a+x@b.c@d", "a+x@b@c.d", "a+@@b.c", // only up to the first @ behind it
		"a@b+x@c.d", "a@b.c+x@d.e", "a@b+@c.d", "a@+@b.c", "@a+x@b.c", "@+x@b.c", // an @ ahead of the + stays
		"a+x@b.c+y", "a+x@b.c+y@d.e", "a+x@b+y@c.d", "a+x@+b.c", // only the first + counts
		"a+x@b", "a+x@", "a+x@.b", "a+x@b_c.d", // the host is none
	} {
		wantNone(t, s)
	}
}

// P9.2: Phone

func TestPhoneOfTheDocument(t *testing.T) {
	wantPhone(t, "+49 (30) 1234-567", "+49301234567")
	wantPhone(t, "+1 (555) 010-20.30", "+15550102030")
	wantPhone(t, "+49301234567", "+49301234567")
}

func TestPhoneOfEachLength(t *testing.T) {
	const digits = "123456789012345678901234567890"
	for n := range len(digits) {
		for _, s := range []string{"+" + digits[:n], "+9" + strings.Repeat("0", max(n-1, 0)), " (+) " + digits[:n] + "-"} {
			if n := len(strings.Trim(s, " (+)-")); n < 8 || 15 < n {
				wantNone(t, s)
			}
		}
	}
	wantNone(t, "+1234567")
	wantPhone(t, "+12345678", "+12345678")
	wantPhone(t, "+123456789", "+123456789")
	wantPhone(t, "+12345678901234", "+12345678901234")
	wantPhone(t, "+123456789012345", "+123456789012345")
	wantNone(t, "+1234567890123456")
	wantNone(t, "+12345678901234567")
}

func TestPhoneByItsFirstDigit(t *testing.T) {
	for first := range 10 {
		for _, n := range []int{7, 8, 14} {
			s := fmt.Sprintf("+%d%s", first, strings.Repeat("0", n))
			if first == 0 {
				wantNone(t, s)
				wantNone(t, "+(0)"+s[1:])
			} else {
				wantPhone(t, s, s)
				wantPhone(t, "+ ("+s[1:2]+") "+s[2:], s)
			}
		}
	}
	wantNone(t, "+012345678")
	wantNone(t, "+(0)49301234567")
	wantPhone(t, "+49(0)301234567", "+490301234567")
}

func TestPhoneByItsPlusSigns(t *testing.T) {
	for _, s := range []string{
		"12345678", "0049301234567", "49301234567", "++12345678", "+ +12345678", "+1+2345678", "12345678+", "+12345678+", "1+2345678", "1+23456789", "-12345678", "(12345678)",
	} {
		wantNone(t, s)
	}
}

func TestPhoneWithSeparatorsAnywhere(t *testing.T) {
	const phone = "+49301234567"
	for _, separator := range []string{" ", "\t", "-", ".", "(", ")", "  ", "--", "..", ")(", "((", " \t-.()", strings.Repeat("-. ", 1000)} {
		for i := range len(phone) + 1 {
			s := phone[:i] + separator + phone[i:]
			wantPhone(t, s, phone)
			wantStrange(t, s)
		}
		wantPhone(t, strings.Join(strings.Split(phone, ""), separator), phone)
		wantPhone(t, separator+strings.Join(strings.Split(phone, ""), separator)+separator, phone)
		wantNone(t, separator)
		wantNone(t, "+"+separator)
		wantNone(t, "+1234567"+separator)
		wantNone(t, "+1234567890123456"+separator)
	}
}

func TestPhoneWithOtherBytes(t *testing.T) {
	for _, phone := range []string{"+12345678", "+1234 (567) 89", "+123456789012345"} {
		for b := range 256 {
			for i := range len(phone) + 1 {
				wantModel(t, phone[:i]+char(b)+phone[i:])
			}
			for i := range len(phone) {
				wantModel(t, phone[:i]+char(b)+phone[i+1:])
			}
		}
	}
	for _, s := range strangeTexts {
		for _, phone := range []string{s + "+12345678", "+" + s + "12345678", "+1234" + s + "5678", "+12345678" + s, s + "12345678"} {
			wantNone(t, phone)
		}
	}
	for _, s := range []string{"_", "a", "A", "x", "e", "@", "/"} {
		wantNone(t, "+1234"+s+"5678")
		wantNone(t, "+12345678"+s)
		wantNone(t, s+"+12345678")
	}
	wantNone(t, "+12345678 ext. 9")
}

// P9.2: Any and Kind

func TestAnyOfStringsThatLookLikeBoth(t *testing.T) {
	wantMail(t, "12345678@1.2", "12345678@1.2")
	wantMail(t, "1+12345678@1.2", "1@1.2")
	wantMail(t, "-@1.2", "-@1.2")
	for _, s := range []string{"+12345678@1.2", "+12345678@ex.org", "ann@+12345678", "ann@12345678", "+12345678, ann@ex.org"} {
		wantNone(t, s)
	}
}

func TestKind(t *testing.T) {
	for s, kind := range map[string]int{
		"ann.b@example.org": 1, "a@b.c": 1, as(36) + "@b.c": 1, "_@0.0": 1,
		"+49301234567": 2, "+12345678": 2, "+123456789012345": 2,
		"": 0, "ann": 0, "a@b": 0, "+1234567": 0, "+1234567890123456": 0, "+01234567": 0, "12345678": 0, as(37) + "@b.c": 0,
	} {
		want(t, "Kind", s, fmt.Sprint(address.Kind(s)), fmt.Sprint(kind))
		wantModel(t, s)
	}
}

// becoming are strings that only become addresses when they are normalized.
var becoming = []string{
	" a@b.c", "a@b.c ", "\ta@b.c", "a@b.c\t", "A@b.c", "a@B.c", "a@b.C", "a+@b.c", "a+x@b.c", "Ann.B+news@Example.ORG", as(36) + "+@b.c", " " + as(36) + "@b.c",
	" +12345678", "+12345678 ", "\t+12345678", "+12345678\t", "+1234 5678", "+1234-5678", "+1234.5678", "+(1234)5678", "+(12345678", "+12345678)", "+49 (30) 1234-567", "+123456789012345 ", "+1234567 8",
}

func TestStringsThatOnlyBecomeAddresses(t *testing.T) {
	for _, s := range becoming {
		wantStrange(t, s)
		normal, ok := address.Any(s)
		if !ok || address.Kind(normal) == 0 {
			t.Errorf("Any(%q): %q, %v, want an address", s, normal, ok)
		}
		wantModel(t, s)
	}
}

// P9.3

func TestMaskAndSplitOfMailAddresses(t *testing.T) {
	for _, k := range []struct{ name, host, mask string }{
		{"ann.b", "example.org", "a***@example.org"},
		{"a", "b.c", "a***@b.c"},
		{"ab", "c.d.e", "a***@c.d.e"},
		{"_", "0.9", "_***@0.9"},
		{"-x", "x-y.z", "-***@x-y.z"},
		{"0", "a.b", "0***@a.b"},
		{"9.8", "a.b", "9***@a.b"},
		{as(36), "b.c", "a***@b.c"},
		{"z", as(20) + "." + as(17), "z***@" + as(20) + "." + as(17)},
	} {
		s := k.name + "@" + k.host
		want(t, "Mask", s, address.Mask(s), k.mask)
		want(t, "Split", s, parted(address.Split(s)), parted(k.name, k.host, true))
		wantModel(t, s)
	}
}

func TestMaskAndSplitOfPhoneAddresses(t *testing.T) {
	for s, mask := range map[string]string{
		"+49301234567": "+***67", "+15550102030": "+***30", "+12345678": "+***78", "+123456789012345": "+***45", "+10000000": "+***00", "+10000001": "+***01", "+10000010": "+***10",
	} {
		want(t, "Mask", s, address.Mask(s), mask)
		want(t, "Split", s, parted(address.Split(s)), parted("", "", false))
		wantModel(t, s)
	}
}

func TestMaskAndSplitOfOtherStrings(t *testing.T) {
	for _, s := range []string{
		"", "a", "@", "ann", "ann@", "@ex.org", "a@b", "a@b@c.d", "a@@b.c", "a..b@c.d", ".a@b.c", "a@b_c.d", "a@-b.c", as(37) + "@b.c", "a@" + as(21) + ".b", "a@b.c\n", "\na@b.c", "a+x@b.c", "A@b.c", "\xff@b.c",
		"+", "+1", "+12", "+1234567", "+1234567890123456", "+01234567", "12345678", "++12345678", "+1234567a", "+12345678\n", "+***67", "a***@b.c", "***",
	} {
		wantStrange(t, s)
		wantModel(t, s)
	}
	for _, s := range append(strangeTexts, becoming...) {
		wantStrange(t, s)
	}
}

func TestMaskDoesNotTellTheLength(t *testing.T) {
	for n := 1; n <= 36; n++ {
		want(t, "Mask", as(n)+"@b.c", address.Mask(as(n)+"@b.c"), "a***@b.c")
	}
	for n := 8; n <= 15; n++ {
		s := "+" + strings.Repeat("1", n)
		want(t, "Mask", s, address.Mask(s), "+***11")
	}
}

// P9.4, and all of it against the model

// wantUnchanged asks that normalizing what s is normalized to does not change it.
func wantUnchanged(t *testing.T, s string) {
	t.Helper()
	for _, normalize := range []func(string) (string, bool){address.Mail, address.Phone, address.Any} {
		normal, ok := normalize(s)
		if !ok {
			continue
		}
		want(t, "normalized twice", s, call(normalize(normal)), call(normal, true))
		want(t, "Any of what was normalized", s, call(address.Any(normal)), call(normal, true))
		if address.Kind(normal) == 0 {
			t.Errorf("%q is normalized to %q, whose kind is 0", s, normal)
		}
	}
}

func TestAllShortStrings(t *testing.T) {
	const bytes = "aZ0.-_+@ "
	var all func(s string, more int)
	all = func(s string, more int) {
		wantModel(t, s)
		wantUnchanged(t, s)
		for i := 0; more > 0 && i < len(bytes); i++ {
			all(s+bytes[i:i+1], more-1)
		}
	}
	all("", 5)
	for _, s := range []string{"a@b.", "a+@b", "a@b.c", "+123456", "+123456789012"} {
		all(s, 4)
	}
}

func TestManyLongerStrings(t *testing.T) {
	pieces := []string{"a", "B", "ann", "0", "7", "12", "345", "6789", ".", ".", "-", "_", "+", "+", "@", "@", "ex.org", "@b.c", "+1234", " ", "\t", "(", ")", "\n", "\x80", "\u212a", as(19), as(20), as(21), "9", "88", "@B.C", "+4930", "(0)", "-56"}
	source := rand.New(rand.NewSource(9))
	found := map[int]int{}
	for range 60000 {
		var b strings.Builder
		for range 1 + source.Intn(9) {
			b.WriteString(pieces[source.Intn(len(pieces))])
		}
		s := b.String()
		wantModel(t, s)
		wantUnchanged(t, s)
		normal, _ := address.Any(s)
		found[address.Kind(normal)]++
	}
	if found[api.Mail] < 1000 || found[api.Phone] < 50 {
		t.Errorf("there were %d mail addresses and %d phone addresses: too few to tell", found[api.Mail], found[api.Phone])
	}
}

func TestNormalizedAddressesStay(t *testing.T) {
	for _, s := range becoming {
		wantUnchanged(t, s)
	}
	source := rand.New(rand.NewSource(94))
	const nameBytes, hostBytes = "abcxyz0189_-.", "abcxyz0189-."
	text := func(bytes string, n int) string {
		b := make([]byte, n)
		for i := range b {
			b[i] = bytes[source.Intn(len(bytes))]
		}
		return string(b)
	}
	for range 20000 {
		mail := text(nameBytes, 1+source.Intn(25)) + "@" + text(hostBytes, 3+source.Intn(25))
		wantModel(t, mail)
		wantUnchanged(t, mail)
		if address.Kind(mail) == api.Mail {
			at := strings.IndexByte(mail, '@')
			wantMail(t, " \t"+strings.ToUpper(mail[:at])+"+"+text(nameBytes+" +\xff", source.Intn(50))+strings.ToUpper(mail[at:])+"\t ", mail)
		}
		phone := "+" + text("0123456789", 6+source.Intn(12))
		wantModel(t, phone)
		wantUnchanged(t, phone)
	}
}

// P1, R4, R5

func TestLongStrings(t *testing.T) {
	for _, piece := range []string{"a", ".", "@", "+", "-", "0", " ", "\t", "a.", "a@", "a+", "+@", "\xff", "\n", "(", "A"} {
		long := strings.Repeat(piece, 1<<13)
		for _, s := range []string{long, "a" + long, long + "a", "a@" + long, "a@b." + long, long + "@b.c", "a@b.c" + long, "a+" + long + "@b.c", "+1" + long, "+" + long, "+12345678" + long} {
			wantModel(t, s)
			wantStrange(t, s)
		}
	}
	const n = 1 << 20
	wantMail(t, "a+"+strings.Repeat("x", n)+"@b.c", "a@b.c")
	wantMail(t, strings.Repeat(" ", n)+"a@b.c", "a@b.c")
	wantPhone(t, "+12345678"+strings.Repeat("-", n), "+12345678")
	wantStrange(t, strings.Repeat("a.", n)+"@b.c")
	wantStrange(t, "a@b."+strings.Repeat("a.", n))
	wantStrange(t, "+"+strings.Repeat("1", n))
}

func TestEqualCallsReturnEqualResults(t *testing.T) {
	answers := func(s string) string {
		return call(address.Mail(s)) + call(address.Phone(s)) + call(address.Any(s)) + fmt.Sprint(address.Kind(s)) + address.Mask(s) + parted(address.Split(s))
	}
	strs := append([]string{"", "ann@example.org", "+49301234567", "ann"}, becoming...)
	strs = append(strs, strangeTexts...)
	var first []string
	for _, s := range strs {
		first = append(first, answers(s))
	}
	for i, s := range strs {
		want(t, "the answers once more", s, answers(strings.Clone(s)), first[i])
	}
}

func TestAddressesAreValidTexts(t *testing.T) {
	for _, strange := range strangeTexts {
		for _, s := range []string{"a+" + strange + "@b.c", strange + "a@b.c", "+1234567" + strange + "8"} {
			normal, _ := address.Any(s)
			if !utf8.ValidString(normal) || strings.Trim(normal, "abcdefghijklmnopqrstuvwxyz0123456789_-.+@") != "" {
				t.Errorf("Any(%q): %q", s, normal)
			}
		}
	}
}
