package mail_test

import (
	"slices"
	"strings"
	"testing"

	"interrex/api"
	"interrex/mail"
)

// dice is a row of numbers that look thrown, the same each time.
type dice uint64

func (d *dice) next(n int) int {
	*d = *d*6364136223846793005 + 1442695040888963407
	return int(uint64(*d) >> 33 % uint64(n))
}

// one tells one of some texts.
func (d *dice) one(of []string) string { return of[d.next(len(of))] }

// The names and addresses that the deeds below are done with: few, so that
// they meet. Two of the addresses are written in other letters, too.
var (
	deedNames = []string{"a", "ab", "a-b", "b", "c", "d"}
	deedMails = []string{"a@b.c", "A@B.C", "a@b.d", "b@b.c", "b@B.c", "c@x.org", "d@x.org"}
)

// list is an index told once more in another way: names and addresses in one
// row, gone through from its beginning.
type list []struct{ name, mail string }

// at tells where a name stands; -1: nowhere.
func (l list) at(n string) int {
	for i, p := range l {
		if p.name == n {
			return i
		}
	}
	return -1
}

// set, drop and rename are the deeds, of what names and addresses may be.
func (l *list) set(n, m string) api.Errno {
	m = strings.ToLower(m)
	for _, p := range *l {
		if m != "" && p.mail == m && p.name != n {
			return api.ErrSame
		}
	}
	l.drop(n)
	if m != "" {
		*l = append(*l, struct{ name, mail string }{n, m})
	}
	return api.OK
}

func (l *list) drop(n string) bool {
	i := l.at(n)
	if i >= 0 {
		*l = slices.Delete(*l, i, i+1)
	}
	return i >= 0
}

func (l *list) rename(old, next string) api.Errno {
	i := l.at(old)
	if i < 0 {
		return api.ErrNone
	}
	if old != next && l.at(next) >= 0 {
		return api.ErrSame
	}
	(*l)[i].name = next
	return api.OK
}

// byName is what it has.
func (l list) byName() map[string]string {
	m := map[string]string{}
	for _, p := range l {
		m[p.name] = p.mail
	}
	return m
}

// haveTheirOwn tells whether each address that an index tells is of one name,
// as it is folded, and whether nobody else has what the deeds are done with.
func haveTheirOwn(t *testing.T, x *mail.Index, want map[string]string) {
	t.Helper()
	owners := map[string]string{}
	for n, m := range x.Names() {
		if o, had := owners[m]; had {
			t.Errorf("%q and %q both have %q", o, n, m)
		}
		if m != strings.ToLower(m) {
			t.Errorf("%q of %q isn't folded", m, n)
		}
		owners[m] = n
	}
	for _, m := range deedMails {
		o, had := owners[strings.ToLower(m)]
		if n, e := x.Find(m); n != o || had != (e == api.OK) || !had && e != api.ErrNone {
			t.Errorf("Find(%q) is %q, %d, not %q", m, n, e, o)
		}
	}
	for _, n := range deedNames {
		if m, has := x.Of(n); m != want[n] || has != (want[n] != "") {
			t.Errorf("Of(%q) is %q, %v, not %q", n, m, has, want[n])
		}
	}
}

// deed does one deed to an index and to its list, and tells what each
// answered; a Drop that answers false counts as ErrNone.
func deed(d *dice, x *mail.Index, l *list) (api.Errno, api.Errno) {
	n, o, m := d.one(deedNames), d.one(deedNames), d.one(deedMails)
	badName, badMail := d.next(12) == 0, d.next(12) == 0
	if badName {
		n = d.one(noNames)
	}
	if badMail {
		m = d.one(noMails)
	}
	if d.next(12) == 0 {
		m, badMail = "", false
	}
	switch d.next(6) {
	case 0:
		return dropped(x.Drop(n)), dropped(!badName && l.drop(n))
	case 1:
		return x.Rename(o, n), expect(badName, false, func() api.Errno { return l.rename(o, n) })
	case 2:
		return x.Rename(n, o), expect(false, false, func() api.Errno { return l.rename(n, o) })
	}
	return x.Set(n, m), expect(badName, badMail, func() api.Errno { return l.set(n, m) })
}

func dropped(had bool) api.Errno {
	if had {
		return api.OK
	}
	return api.ErrNone
}

// expect is what a deed should tell, which is done just if its parts may be.
func expect(badName, badMail bool, deed func() api.Errno) api.Errno {
	if badName {
		return api.ErrName
	}
	if badMail {
		return api.ErrMail
	}
	return deed()
}

// Many deeds, good and bad ones, each held against the list: no address is of
// two, what is refused changes nothing, and copies stay as they were.
func TestP9_3ManyDeeds(t *testing.T) {
	var d dice
	seen := map[api.Errno]int{}
	x, l := mail.New(), list{}
	for range 20000 {
		was, before := x.Copy(), l.byName()
		e, want := deed(&d, x, &l)
		seen[e]++
		is(t, "a deed", e, want)
		after := l.byName()
		holds(t, "behind a deed", x, after)
		haveTheirOwn(t, x, after)
		holds(t, "a copy ahead of a deed", was, before)
		haveTheirOwn(t, was, before)
		if e != api.OK {
			holds(t, "what was refused", x, before)
		}
		if t.Failed() {
			return
		}
	}
	for _, e := range []api.Errno{api.OK, api.ErrName, api.ErrMail, api.ErrSame, api.ErrNone} {
		if seen[e] < 100 {
			t.Error("too few to tell anything of error", e, seen[e])
		}
	}
}

// Two that turn their addresses about never have the same one meanwhile.
func TestP9_3TurnedAbout(t *testing.T) {
	x := some(t, "ann", "bob")
	was := map[string]string{"ann": "ann@x.org", "bob": "bob@x.org"}
	is(t, "bob's to ann", x.Set("ann", "Bob@x.org"), api.ErrSame)
	is(t, "ann's to bob", x.Set("bob", "aNN@x.org"), api.ErrSame)
	is(t, "ann to bob", x.Rename("ann", "bob"), api.ErrSame)
	holds(t, "neither", x, was)
	is(t, "ann aside", x.Rename("ann", "cid"), api.OK)
	is(t, "bob to ann", x.Rename("bob", "ann"), api.OK)
	is(t, "ann to bob", x.Rename("cid", "bob"), api.OK)
	holds(t, "turned about", x, map[string]string{"ann": "bob@x.org", "bob": "ann@x.org"})
	is(t, "its old address", x.Set("ann", "ann@x.org"), api.ErrSame)
	holds(t, "still turned about", x, map[string]string{"ann": "bob@x.org", "bob": "ann@x.org"})
}

// What is refused leaves the address that a name had, and who has it.
func TestP9_3WhatIsRefused(t *testing.T) {
	x := some(t, "ann", "bob")
	want := map[string]string{"ann": "ann@x.org", "bob": "bob@x.org"}
	for what, refused := range map[string]func() bool{
		"Set of no name":         func() bool { return x.Set("Ann", "a@b.c") == api.ErrName },
		"Set of no name to none": func() bool { return x.Set("ann@x.org", "") == api.ErrName },
		"Set to no address":      func() bool { return x.Set("ann", "ann") == api.ErrMail },
		"Set to another one's":   func() bool { return x.Set("ann", "bob@x.org") == api.ErrSame },
		"Set of a new name":      func() bool { return x.Set("cid", "bob@x.org") == api.ErrSame },
		"Drop of who has none":   func() bool { return !x.Drop("cid") },
		"Drop of an address":     func() bool { return !x.Drop("ann@x.org") },
		"Rename to no name":      func() bool { return x.Rename("ann", "Ann") == api.ErrName },
		"Rename to nothing":      func() bool { return x.Rename("ann", "") == api.ErrName },
		"Rename of who has none": func() bool { return x.Rename("cid", "dan") == api.ErrNone },
		"Rename of an address":   func() bool { return x.Rename("ann@x.org", "dan") == api.ErrNone },
		"Rename to another one":  func() bool { return x.Rename("ann", "bob") == api.ErrSame },
	} {
		if !refused() {
			t.Error(what)
		}
		holds(t, what, x, want)
		for _, n := range []string{"cid", "dan", "Ann", "", "ann@x.org"} {
			hasNone(t, what, x, n)
		}
		isNobodys(t, what, x, "a@b.c", api.ErrNone)
	}
}
