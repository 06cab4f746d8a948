package name_test

import (
	"regexp"
	"strings"
	"testing"

	"interrex/api"
	"interrex/name"
)

// The forms, told once more in another way.
var (
	nameForm   = regexp.MustCompile(`\A[a-z]([a-z0-9.-]{0,10}[a-z0-9])?\z`)
	prefixForm = regexp.MustCompile(`\A[a-z0-9.-]{0,12}\z`)
	hashForm   = regexp.MustCompile(`\A[0-9a-f]{1,12}\z`)
)

// errno is OK, or the error, if it is none.
func errno(is bool, e api.Errno) api.Errno {
	if is {
		return api.OK
	}
	return e
}

// holds holds what is told of a text against the forms.
func holds(t *testing.T, s string) {
	t.Helper()
	if e, want := name.Name(s), errno(nameForm.MatchString(s), api.ErrName); e != want {
		t.Errorf("Name(%q): %d, not %d", s, e, want)
	}
	if e, want := name.Prefix(s), errno(prefixForm.MatchString(s), api.ErrName); e != want {
		t.Errorf("Prefix(%q): %d, not %d", s, e, want)
	}
	if e, want := name.Hash(s), errno(hashForm.MatchString(s), api.ErrForm); e != want {
		t.Errorf("Hash(%q): %d, not %d", s, e, want)
	}
}

// texts tells all texts of at most so many of these signs.
func texts(signs string, most int, tell func(string)) {
	tell("")
	if most == 0 {
		return
	}
	for i := range len(signs) {
		texts(signs, most-1, func(s string) { tell(signs[i:i+1] + s) })
	}
}

// dice is a row of numbers that look thrown, the same each time.
type dice uint64

func (d *dice) next(n int) int {
	*d = *d*6364136223846793005 + 1442695040888963407
	return int(uint64(*d) >> 33 % uint64(n))
}

// text has so many of these signs.
func (d *dice) text(signs string, n int) string {
	b := make([]byte, n)
	for i := range b {
		b[i] = signs[d.next(len(signs))]
	}
	return string(b)
}

func TestP5_1NameExample(t *testing.T) {
	if e := name.Name("a-"); e != api.ErrName {
		t.Error(e)
	}
}

func TestP5_1Name(t *testing.T) {
	for _, s := range []string{"a", "z", "a0", "z9", "ann", "ann-b.9", "a..b", "a--b", "a.-b", "a-.-1", "abcdefghijkl", "a----------9", "a..........z", "a01234567890"} {
		if e := name.Name(s); e != api.OK {
			t.Errorf("%q: %d", s, e)
		}
	}
	for _, s := range []string{"", "0", "9a", "-", ".", "-a", ".a", "a-", "a.", "a.-", "A", "Ann", "anN", "aNn", "a b", " a", "a ", "a_b", "a@b", "a\x00", "\x00", "a\n", "a\nb", "a\x80b", "\xff", "ä", "aäb", "\u212a", "a\u017f", "a\u0660", "abcdefghijklm", "abcdefghijkl-", "a-----------"} {
		if e := name.Name(s); e != api.ErrName {
			t.Errorf("%q: %d", s, e)
		}
	}
}

func TestP5_1Prefix(t *testing.T) {
	for _, s := range []string{"", "a", "0", "-", ".", "a-", "-.a", "9.", "ann", "------------", "............", "012345678901", "abcdefghijkl"} {
		if e := name.Prefix(s); e != api.OK {
			t.Errorf("%q: %d", s, e)
		}
	}
	for _, s := range []string{"A", "aB", "-Z", "a b", " ", "_", "/", ",", "@", "`", "{", ":", "a\x00", "\xae", "ä", "abcdefghijklm", ".............", "0123456789012"} {
		if e := name.Prefix(s); e != api.ErrName {
			t.Errorf("%q: %d", s, e)
		}
	}
}

func TestP5_1Hash(t *testing.T) {
	for _, s := range []string{"0", "9", "a", "f", "00", "09af", "0123456789ab", "ffffffffffff", "000000000000"} {
		if e := name.Hash(s); e != api.OK {
			t.Errorf("%q: %d", s, e)
		}
	}
	for _, s := range []string{"", "g", "z", "A", "F", "0x1", "-1", "+1", "1.", " 1", "1 ", "1\n", "1_0", "`", "/", ":", "@", "\x00", "1\x80", "\u0661", "0123456789abc", "0000000000000"} {
		if e := name.Hash(s); e != api.ErrForm {
			t.Errorf("%q: %d", s, e)
		}
	}
}

// Each byte is looked at in each place: alone, first, in the midst, last.
func TestP5_1EachByte(t *testing.T) {
	for i := range 256 {
		c := string([]byte{byte(i)})
		for _, s := range []string{c, c + "a", "a" + c, "a" + c + "a", c + "0", "0" + c, "0" + c + "0", c + c, "abcdef" + c + "abcde", "abcdefabcde" + c, "abcdefabcdef" + c} {
			holds(t, s)
		}
	}
}

func TestP5_1EachLength(t *testing.T) {
	for _, c := range []string{"a", "f", "g", "z", "0", "9", "-", ".", "A", "@", "\x00", "\xff"} {
		for n := range 40 {
			for _, s := range []string{strings.Repeat(c, n), "a" + strings.Repeat(c, n), "a" + strings.Repeat(c, n) + "b"} {
				holds(t, s)
			}
		}
		for _, n := range []int{255, 256, 257, 265, 1<<16 + 1, 1<<16 + 12, 1 << 20} {
			holds(t, strings.Repeat(c, n))
		}
	}
}

func TestP5_1AllShortTexts(t *testing.T) {
	texts("afgz09-.A_", 4, func(s string) { holds(t, s) })
}

func TestP5_1ManyTexts(t *testing.T) {
	var d dice
	for range 20000 {
		holds(t, d.text("abcxyz0189-.", d.next(15)))
		holds(t, d.text("abcdef0123456789", d.next(15)))
		holds(t, d.text("ab09-.`{/:,AZ\xe1", d.next(15)))
	}
}

// All beginnings, of no byte and of all bytes too.
func TestP5_2ANamesBeginningIsAPrefix(t *testing.T) {
	var d dice
	names := []string{"a", "a-b", "a.-9", "abcdefghijkl", "a-.-.-.-.-.9"}
	for len(names) < 3000 {
		if s := "a" + d.text("bz09-.", d.next(12)); nameForm.MatchString(s) {
			names = append(names, s)
		}
	}
	for _, s := range names {
		if e := name.Name(s); e != api.OK {
			t.Errorf("%q: %d", s, e)
		}
		for n := range len(s) + 1 {
			if e := name.Prefix(s[:n]); e != api.OK {
				t.Errorf("%q of %q: %d", s[:n], s, e)
			}
		}
	}
}
