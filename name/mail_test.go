package name_test

import (
	"regexp"
	"strings"
	"testing"

	"interrex/api"
	"interrex/name"
)

// mailForm is an address's form, told once more in another way, without its
// length.
var mailForm = regexp.MustCompile(`\A[a-zA-Z]([a-zA-Z0-9.-]{0,10}[a-zA-Z0-9])?@[a-zA-Z0-9]+(\.[a-zA-Z0-9]+)+\z`)

// folded is a text with A to Z turned, told once more in another way.
func folded(s string) string {
	for i := range 26 {
		s = strings.ReplaceAll(s, string(rune('A'+i)), string(rune('a'+i)))
	}
	return s
}

// holdsMail holds what is told of a text against the form of an address.
func holdsMail(t *testing.T, s string) {
	t.Helper()
	want, errWant := "", api.ErrMail
	if len(s) <= 20 && mailForm.MatchString(s) {
		want, errWant = folded(s), api.OK
	}
	if m, e := name.Mail(s); m != want || e != errWant {
		t.Errorf("Mail(%q): %q, %d, not %q, %d", s, m, e, want, errWant)
	}
}

func TestP5_1MailExample(t *testing.T) {
	if m, e := name.Mail("Ann.B@X.org"); m != "ann.b@x.org" || e != api.OK {
		t.Error(m, e)
	}
}

func TestP5_1Mail(t *testing.T) {
	for s, want := range map[string]string{
		"a@b.c":                "a@b.c",
		"A1@B2.C3":             "a1@b2.c3",
		"Z@Z.Z":                "z@z.z",
		"a-b@0.1":              "a-b@0.1",
		"A--..9@9x.8Y":         "a--..9@9x.8y",
		"a@b.c.d.e":            "a@b.c.d.e",
		"abcdefghijkl@b.c":     "abcdefghijkl@b.c",
		"ABCDEFGHIJKL@BCDE.GH": "abcdefghijkl@bcde.gh",
		"a@bcdefghijklmnopq.r": "a@bcdefghijklmnopq.r",
		"a@b.cdefghijklmnopqr": "a@b.cdefghijklmnopqr",
		"a@1.2.3.4.5.6.7.8.90": "a@1.2.3.4.5.6.7.8.90",
	} {
		if m, e := name.Mail(s); m != want || e != api.OK {
			t.Errorf("%q: %q, %d", s, m, e)
		}
	}
}

func TestP5_1MailThatIsNone(t *testing.T) {
	for _, s := range []string{
		"", "a", "@", ".", "@.", "a@", "@b.c", "a.b.c", // parts are wanting
		"a@b", "a@.", "a@b.", "a@.c", "a@b..c", "a@.b.c", "a@b.c.", "a@...", // labels
		"a@@b.c", "a@b.c@", "a@b@c.d", "a@b.c@d.e", "@a@b.c", // more than one @
		"1@b.c", "-a@b.c", ".a@b.c", "a-@b.c", "a.@b.c", "a_b@c.d", "a+b@c.d", "abcdefghijklm@b.c", // no name
		"a@b-c.d", "a@-b.c", "a@b.c-", "a@b_c.d", "a@b.c d", "a@b.c:1", // signs that no label has
		" a@b.c", "a@b.c ", "a @b.c", "a@ b.c", "a@b.c\n", "a@b\n.c", "\x00a@b.c", "a@b.c\x00",
		"\xe4@b.c", "a@\xe4.c", "ä@b.c", "a@ä.c", "a@b.\u0661",
		"\u212a@b.c", "a@\u212a.c", "a@b.\u017f", "\u0130@b.c", // letters that other foldings turn into a to z
		"abcdefghijkl@bcdefg.hi", "abcdefghijkl@bcde.ghi", "a@bcdefghijklmnopqr.s", "ABCDEFGHIJKL@BCDE.GHI", // more than 20 bytes
	} {
		if m, e := name.Mail(s); m != "" || e != api.ErrMail {
			t.Errorf("%q: %q, %d", s, m, e)
		}
	}
}

func TestP5_1MailEachByte(t *testing.T) {
	for i := range 256 {
		c := string([]byte{byte(i)})
		for _, s := range []string{c, c + "@b.c", c + "a@b.c", "a" + c + "@b.c", "a" + c + "a@b.c", "a" + c + "b.c", "a@" + c + ".c", "a@b" + c + "b.c", "a@" + c + "b.c", "a@b" + c + "c", "a@b." + c, "a@b.c" + c, "a@b.c" + c + "d", "a@b.c." + c} {
			holdsMail(t, s)
		}
	}
}

func TestP5_1MailEachLength(t *testing.T) {
	for n := range 30 {
		for _, c := range []string{"a", "Z", "0", "-", ".", "@"} {
			long := strings.Repeat(c, n)
			for _, s := range []string{"a" + long + "@b.c", "A" + long + "Z@B.C", "a@" + long + ".c", "a@b." + long, "a@b" + long + "c", long + "@" + long + "." + long} {
				holdsMail(t, s)
			}
		}
	}
	for _, n := range []int{255, 256, 260, 1 << 16, 1<<16 + 5, 1 << 20} {
		holdsMail(t, "a@b."+strings.Repeat("c", n))
		holdsMail(t, strings.Repeat("a", n)+"@b.c")
		holdsMail(t, strings.Repeat("@", n))
	}
}

func TestP5_1MailAllShortTexts(t *testing.T) {
	texts("aZ0.@-", 6, func(s string) { holdsMail(t, s) })
}

func TestP5_1MailManyTexts(t *testing.T) {
	var d dice
	for range 20000 {
		local, domain := d.text("aBz09-.", d.next(14)), d.text("aBz09..", d.next(14))
		holdsMail(t, local+"@"+domain)
		holdsMail(t, "a"+local+"Z@x"+domain+"x.y")
		holdsMail(t, d.text("aZ0@.-_\xc4", d.next(23)))
	}
}

func TestP5_1Fold(t *testing.T) {
	for s, want := range map[string]string{
		"":                           "",
		"a":                          "a",
		"A":                          "a",
		"Z":                          "z",
		"ABCDEFGHIJKLMNOPQRSTUVWXYZ": "abcdefghijklmnopqrstuvwxyz",
		"abcdefghijklmnopqrstuvwxyz": "abcdefghijklmnopqrstuvwxyz",
		"aZ-\xc4":                    "az-\xc4",
		"@[`{09":                     "@[`{09",
		"A\x00B\xff\xc3":             "a\x00b\xff\xc3",
		"ÄÖ\u212a\u0130\u017fX":      "ÄÖ\u212a\u0130\u017fx",
		"\ufffdQ\xed\xa0\x80":        "\ufffdq\xed\xa0\x80",
		"Ann.B@X.org and More":       "ann.b@x.org and more",
	} {
		if f := name.Fold(s); f != want {
			t.Errorf("%q: %q, not %q", s, f, want)
		}
	}
}

func TestP5_1FoldEachByte(t *testing.T) {
	for i := range 256 {
		c, want := byte(i), byte(i)
		if c >= 'A' && c <= 'Z' {
			want = c + 32
		}
		if f := name.Fold(string([]byte{c})); f != string([]byte{want}) {
			t.Errorf("%q: %q", c, f)
		}
		if f := name.Fold(string([]byte{'X', c, 'x', c})); f != string([]byte{'x', want, 'x', want}) {
			t.Errorf("%q between others: %q", c, f)
		}
	}
}

func TestP5_1FoldALongText(t *testing.T) {
	s := strings.Repeat("Ab\xc4Z", 1<<18)
	if name.Fold(s) != strings.Repeat("ab\xc4z", 1<<18) {
		t.Error("not as it should be")
	}
}

func TestP5_2FoldedAgain(t *testing.T) {
	var d dice
	all := make([]byte, 256)
	for i := range all {
		all[i] = byte(i)
	}
	for range 5000 {
		s := d.text(string(all), d.next(30))
		once := name.Fold(s)
		if once != folded(s) || name.Fold(once) != once {
			t.Errorf("%q: %q, then %q", s, once, name.Fold(once))
		}
	}
}

// An address is folded once more by Mail and by Fold, and letters of any size
// lead to the same one.
func TestP5_2AnAddressStays(t *testing.T) {
	var d dice
	for range 5000 {
		s := "a" + d.text("aBzZ09-.", d.next(6)) + "Q@" + d.text("aBzZ09", 1+d.next(5)) + "." + d.text("aBzZ09", 1+d.next(5))
		m, e := name.Mail(s)
		if e != api.OK || m != folded(s) {
			t.Fatalf("%q: %q, %d", s, m, e)
		}
		if again, e := name.Mail(m); again != m || e != api.OK || name.Fold(m) != m {
			t.Errorf("%q: %q, %d, and %q", m, again, e, name.Fold(m))
		}
		if great, e := name.Mail(strings.ToUpper(s)); great != m || e != api.OK {
			t.Errorf("%q in great letters: %q, %d", s, great, e)
		}
	}
}
