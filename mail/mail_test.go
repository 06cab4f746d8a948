package mail_test

import (
	"fmt"
	"maps"
	"slices"
	"strings"
	"testing"

	"interrex/api"
	"interrex/mail"
)

// is tells whether an error is the one that was wanted.
func is(t *testing.T, what string, e, want api.Errno) {
	t.Helper()
	if e != want {
		t.Errorf("%s: error %d, not %d", what, e, want)
	}
}

// some is the index of these names, each with the address of the same name at x.org.
func some(t *testing.T, names ...string) *mail.Index {
	t.Helper()
	x := mail.New()
	for _, n := range names {
		is(t, "Set of "+n, x.Set(n, n+"@x.org"), api.OK)
	}
	return x
}

// told is what an index tells one by one, in order.
func told(x *mail.Index) []string {
	var l []string
	for n, m := range x.Names() {
		l = append(l, n+" "+m)
	}
	return l
}

// shown is that of an index that has these addresses, by names.
func shown(want map[string]string) []string {
	var l []string
	for _, n := range slices.Sorted(maps.Keys(want)) {
		l = append(l, n+" "+want[n])
	}
	return l
}

// holds holds all that an index tells against the addresses that it should
// have, by names.
func holds(t *testing.T, what string, x *mail.Index, want map[string]string) {
	t.Helper()
	if l := told(x); !slices.Equal(l, shown(want)) {
		t.Errorf("%s: Names are %q, not %q", what, l, shown(want))
	}
	if x.Len() != len(want) {
		t.Errorf("%s: Len is %d, not %d", what, x.Len(), len(want))
	}
	for n, m := range want {
		if a, has := x.Of(n); a != m || !has {
			t.Errorf("%s: Of(%q) is %q, %v, not %q", what, n, a, has, m)
		}
		if o, e := x.Find(m); o != n || e != api.OK {
			t.Errorf("%s: Find(%q) is %q, %d, not %q", what, m, o, e, n)
		}
	}
}

// hasNone tells whether a name has no address.
func hasNone(t *testing.T, what string, x *mail.Index, n string) {
	t.Helper()
	if a, has := x.Of(n); a != "" || has {
		t.Errorf("%s: Of(%.20q) is %q, %v", what, n, a, has)
	}
}

// isNobodys tells whether nobody has an address.
func isNobodys(t *testing.T, what string, x *mail.Index, m string, want api.Errno) {
	t.Helper()
	if n, e := x.Find(m); n != "" || e != want {
		t.Errorf("%s: Find(%.30q) is %q, error %d, not %d", what, m, n, e, want)
	}
}

// noNames and noMails are what no name and no address is.
var (
	noNames = []string{"", "A", "Ann", "9a", "-a", ".a", "a-", "a.", "a b", "a_b", "a@b.c", "ä", "a\x00", "a\xff", "abcdefghijklm", strings.Repeat("a", 1<<16)}
	noMails = []string{" ", "a", "@", "a@", "@b.c", "a@b", "a@b.", "a@.c", "a@b..c", "a@b-x.c", "9a@b.c", "a-@b.c", "a@b@c.d", "a@b.c ", " a@b.c", "a@b.ç", "\u212Aim@b.c", "a@b.c\x00", "a@b.c\xff", "abcdefghijklm@b.c", "abcdefghij@klmnopqrs.u", strings.Repeat("a", 1<<16) + "@b.c"}
)

func TestP9_1New(t *testing.T) {
	x := mail.New()
	holds(t, "a new one", x, nil)
	hasNone(t, "a new one", x, "ann")
	isNobodys(t, "a new one", x, "ann@x.org", api.ErrNone)
	if x.Drop("ann") {
		t.Error("Drop")
	}
	is(t, "Rename", x.Rename("ann", "bob"), api.ErrNone)
	is(t, "Set of no address", x.Set("ann", ""), api.OK)
	holds(t, "a new one, asked", x, nil)
	holds(t, "its copy", x.Copy(), nil)
}

// Each new one has its own addresses.
func TestP9_1NewIsApart(t *testing.T) {
	a, b := mail.New(), mail.New()
	a.Set("ann", "ann@x.org")
	holds(t, "the other one", b, nil)
	is(t, "the same address there", b.Set("bob", "ann@x.org"), api.OK)
	holds(t, "the first one", a, map[string]string{"ann": "ann@x.org"})
	holds(t, "one more", mail.New(), nil)
}

func TestP9_1SetExample(t *testing.T) {
	x := mail.New()
	is(t, "ann", x.Set("ann", "A@b.c"), api.OK)
	is(t, "bob", x.Set("bob", "a@B.c"), api.ErrSame)
	if n, e := x.Find("a@b.C"); n != "ann" || e != api.OK {
		t.Error(n, e)
	}
	holds(t, "the example", x, map[string]string{"ann": "a@b.c"})
}

func TestP9_1SetFolds(t *testing.T) {
	x := mail.New()
	is(t, "great letters", x.Set("ann", "ANN.B-9@X.ORG"), api.OK)
	is(t, "the longest name and address", x.Set("abcdefghijkl", "ABCDEFGHIJKL@9.PQRST"), api.OK)
	is(t, "the shortest ones", x.Set("z", "z@0.1"), api.OK)
	holds(t, "three", x, map[string]string{"ann": "ann.b-9@x.org", "abcdefghijkl": "abcdefghijkl@9.pqrst", "z": "z@0.1"})
}

// Another address stands in place of the one that a name had, which anybody
// may have from there on.
func TestP9_1SetAnother(t *testing.T) {
	x := some(t, "ann", "bob")
	is(t, "another one", x.Set("ann", "A@b.c"), api.OK)
	holds(t, "another one", x, map[string]string{"ann": "a@b.c", "bob": "bob@x.org"})
	isNobodys(t, "another one", x, "ann@x.org", api.ErrNone)
	is(t, "the one that is free", x.Set("bob", "ANN@X.org"), api.OK)
	isNobodys(t, "the one that is free", x, "bob@x.org", api.ErrNone)
	is(t, "back again", x.Set("ann", "bob@x.org"), api.OK)
	isNobodys(t, "back again", x, "a@b.c", api.ErrNone)
	holds(t, "turned about", x, map[string]string{"ann": "bob@x.org", "bob": "ann@x.org"})
}

// A name's own address isn't another one's, in letters of any size.
func TestP9_1SetTheSameOnceMore(t *testing.T) {
	x := some(t, "ann", "bob")
	is(t, "as it is", x.Set("ann", "ann@x.org"), api.OK)
	is(t, "in great letters", x.Set("ann", "ANN@X.ORG"), api.OK)
	holds(t, "the same", x, map[string]string{"ann": "ann@x.org", "bob": "bob@x.org"})
}

// Of an empty text a name has none any more, had it one or not.
func TestP9_1SetNone(t *testing.T) {
	x := some(t, "ann", "bob")
	is(t, "ann", x.Set("ann", ""), api.OK)
	hasNone(t, "ann", x, "ann")
	isNobodys(t, "ann", x, "ann@x.org", api.ErrNone)
	is(t, "ann, twice", x.Set("ann", ""), api.OK)
	is(t, "who never had one", x.Set("cid", ""), api.OK)
	holds(t, "bob's", x, map[string]string{"bob": "bob@x.org"})
	is(t, "ann's, by another one", x.Set("cid", "ann@x.org"), api.OK)
	is(t, "ann again", x.Set("ann", "a@b.c"), api.OK)
	holds(t, "three", x, map[string]string{"ann": "a@b.c", "bob": "bob@x.org", "cid": "ann@x.org"})
}

func TestP9_1SetWhatMayNotBe(t *testing.T) {
	x := some(t, "ann", "bob")
	want := map[string]string{"ann": "ann@x.org", "bob": "bob@x.org"}
	for _, n := range noNames {
		is(t, fmt.Sprintf("name %.20q", n), x.Set(n, "a@b.c"), api.ErrName)
		is(t, fmt.Sprintf("name %.20q, no address", n), x.Set(n, ""), api.ErrName)
		is(t, fmt.Sprintf("name %.20q, what is none", n), x.Set(n, "a"), api.ErrName)
		is(t, fmt.Sprintf("name %.20q, another one's", n), x.Set(n, "ann@x.org"), api.ErrName)
	}
	for _, m := range noMails {
		is(t, fmt.Sprintf("address %.30q", m), x.Set("cid", m), api.ErrMail)
		is(t, fmt.Sprintf("address %.30q of one that has one", m), x.Set("ann", m), api.ErrMail)
	}
	is(t, "another one's", x.Set("cid", "ann@x.org"), api.ErrSame)
	is(t, "another one's, of one that has one", x.Set("bob", "Ann@X.Org"), api.ErrSame)
	holds(t, "two", x, want)
	isNobodys(t, "two", x, "a@b.c", api.ErrNone)
}

func TestP9_1Drop(t *testing.T) {
	x := some(t, "ann", "ann-b", "bob")
	for _, n := range append([]string{"an", "anna", "ann-c", "cid", "ann@x.org", "abcdefghijkl"}, noNames...) {
		if x.Drop(n) {
			t.Errorf("%.20q had none", n)
		}
	}
	holds(t, "three", x, map[string]string{"ann": "ann@x.org", "ann-b": "ann-b@x.org", "bob": "bob@x.org"})
	if !x.Drop("ann") {
		t.Error("ann had one")
	}
	holds(t, "without ann", x, map[string]string{"ann-b": "ann-b@x.org", "bob": "bob@x.org"})
	hasNone(t, "ann", x, "ann")
	isNobodys(t, "ann", x, "ann@x.org", api.ErrNone)
	if x.Drop("ann") {
		t.Error("ann, twice")
	}
	is(t, "ann's, by bob", x.Set("bob", "ann@x.org"), api.OK)
	if x.Drop("ann") || !x.Drop("bob") || !x.Drop("ann-b") {
		t.Error("the others")
	}
	holds(t, "without anybody", x, nil)
	is(t, "ann again", x.Set("ann", "ann@x.org"), api.OK)
	holds(t, "ann again", x, map[string]string{"ann": "ann@x.org"})
}

func TestP9_1Rename(t *testing.T) {
	x := some(t, "ann", "bob")
	is(t, "ann", x.Rename("ann", "cid"), api.OK)
	holds(t, "ann is cid", x, map[string]string{"bob": "bob@x.org", "cid": "ann@x.org"})
	hasNone(t, "ann is cid", x, "ann")
	is(t, "ann, twice", x.Rename("ann", "dan"), api.ErrNone)
	is(t, "the longest name", x.Rename("bob", "abcdefghijkl"), api.OK)
	is(t, "to a name that is free again", x.Rename("cid", "bob"), api.OK)
	holds(t, "turned", x, map[string]string{"abcdefghijkl": "bob@x.org", "bob": "ann@x.org"})
	is(t, "another address", x.Set("bob", "a@b.c"), api.OK)
	is(t, "its old one is free", x.Set("ann", "ann@x.org"), api.OK)
	holds(t, "three", x, map[string]string{"abcdefghijkl": "bob@x.org", "ann": "ann@x.org", "bob": "a@b.c"})
}

func TestP9_1RenameToItself(t *testing.T) {
	x := some(t, "ann", "bob")
	is(t, "ann", x.Rename("ann", "ann"), api.OK)
	holds(t, "ann is ann", x, map[string]string{"ann": "ann@x.org", "bob": "bob@x.org"})
	is(t, "of who has none", x.Rename("cid", "cid"), api.ErrNone)
	holds(t, "cid has none", x, map[string]string{"ann": "ann@x.org", "bob": "bob@x.org"})
}

func TestP9_1RenameWhatMayNotBe(t *testing.T) {
	x := some(t, "ann", "bob")
	for _, n := range noNames {
		is(t, fmt.Sprintf("to %.20q", n), x.Rename("ann", n), api.ErrName)
		is(t, fmt.Sprintf("to %.20q, of who has none", n), x.Rename("cid", n), api.ErrName)
		is(t, fmt.Sprintf("%.20q to itself", n), x.Rename(n, n), api.ErrName)
		is(t, fmt.Sprintf("of %.20q, which has none", n), x.Rename(n, "cid"), api.ErrNone)
		is(t, fmt.Sprintf("of %.20q, to one that has one", n), x.Rename(n, "ann"), api.ErrNone)
	}
	is(t, "of who has none", x.Rename("cid", "dan"), api.ErrNone)
	is(t, "of who has none, to one that has one", x.Rename("cid", "ann"), api.ErrNone)
	is(t, "to one that has one", x.Rename("ann", "bob"), api.ErrSame)
	is(t, "and about", x.Rename("bob", "ann"), api.ErrSame)
	holds(t, "two", x, map[string]string{"ann": "ann@x.org", "bob": "bob@x.org"})
}
