package newer_test

import (
	"fmt"
	"slices"
	"strings"
	"testing"

	"interrex/api"
	"interrex/newer"
)

func TestP11_3MakeGroup(t *testing.T) {
	l, groups := three()
	d := some(t, l, groups)
	for _, g := range noNames {
		is(t, fmt.Sprintf("%.20q", g), d.MakeGroup(g), api.ErrName)
	}
	for _, g := range groups {
		is(t, g, d.MakeGroup(g), api.ErrSame)
	}
	holds(t, "three", d, l, groups)
	for _, g := range []string{"ann", "z", "abcdefghijkl"} {
		is(t, g, d.MakeGroup(g), api.OK)
	}
	full := []string{"abcdefghijkl", "ann", "dev", "ops", "top", "z"}
	holds(t, "six", d, l, full)
	is(t, "no name, full", d.MakeGroup("A"), api.ErrName)
	is(t, "there already, full", d.MakeGroup("dev"), api.ErrSame)
	is(t, "full", d.MakeGroup("bob"), api.ErrFull)
	holds(t, "six, asked for more", d, l, full)
	is(t, "one less", d.DropGroup("z"), api.OK)
	is(t, "one more again", d.MakeGroup("zz"), api.OK)
	full[5] = "zz"
	holds(t, "six again", d, l, full)
}

func TestP11_3DropGroup(t *testing.T) {
	l, groups := three()
	d := some(t, l, groups)
	for _, g := range noNames {
		is(t, fmt.Sprintf("%.20q", g), d.DropGroup(g), api.ErrName)
	}
	for _, g := range []string{"de", "devs", "ann", "z"} {
		is(t, g, d.DropGroup(g), api.ErrNone)
	}
	holds(t, "three", d, l, groups)
	is(t, "dev", d.DropGroup("dev"), api.OK)
	l[0].Groups, l[1].Groups = []string{"ops"}, nil
	holds(t, "without dev", d, l, groups[1:])
	is(t, "dev, twice", d.DropGroup("dev"), api.ErrNone)
	_, e := d.Members("dev")
	is(t, "Members of dev", e, api.ErrNone)
	is(t, "dev again", d.MakeGroup("dev"), api.OK)
	holds(t, "dev again, without members", d, l, groups)
}

func TestP11_3Join(t *testing.T) {
	l, groups := three()
	d := some(t, l, groups)
	for _, n := range noNames {
		for _, g := range []string{"dev", "none", n, "?"} {
			is(t, fmt.Sprintf("%.20q in %.20q", n, g), d.Join(g, n), api.ErrName)
			is(t, fmt.Sprintf("%.20q in %.20q", g, n), d.Join(n, g), api.ErrName)
		}
		is(t, fmt.Sprintf("ann in %.20q", n), d.Join(n, "ann"), api.ErrName)
	}
	is(t, "no such user", d.Join("dev", "dan"), api.ErrNone)
	is(t, "no such group", d.Join("none", "ann"), api.ErrNone)
	is(t, "neither", d.Join("none", "dan"), api.ErrNone)
	is(t, "a group is no user", d.Join("dev", "top"), api.ErrNone)
	is(t, "a user is no group", d.Join("cid", "cid"), api.ErrNone)
	is(t, "there already", d.Join("dev", "ann"), api.ErrSame)
	is(t, "there already, and disabled", d.Join("dev", "bob"), api.ErrSame)
	holds(t, "three", d, l, groups)
	is(t, "cid", d.Join("ops", "cid"), api.OK)
	is(t, "one that is disabled", d.Join("top", "bob"), api.OK)
	is(t, "cid, in one more", d.Join("dev", "cid"), api.OK)
	l[1].Groups, l[2].Groups = []string{"dev", "top"}, []string{"dev", "ops"}
	holds(t, "joined", d, l, groups)
	is(t, "cid, twice", d.Join("ops", "cid"), api.ErrSame)
}

// A user of the same name as a group is as any other one.
func TestP11_3JoinOfOneName(t *testing.T) {
	d := some(t, called("a", "b"), []string{"a", "b"})
	is(t, "a in a", d.Join("a", "a"), api.OK)
	is(t, "a in b", d.Join("b", "a"), api.OK)
	is(t, "a goes out of b", d.Leave("b", "a"), api.OK)
	want := called("a", "b")
	want[0].Groups = []string{"a"}
	holds(t, "a in a", d, want, []string{"a", "b"})
}

func TestP11_3Leave(t *testing.T) {
	l, groups := three()
	d := some(t, l, groups)
	for _, n := range noNames {
		for _, g := range []string{"dev", "none", n, "?"} {
			is(t, fmt.Sprintf("%.20q of %.20q", n, g), d.Leave(g, n), api.ErrName)
			is(t, fmt.Sprintf("%.20q of %.20q", g, n), d.Leave(n, g), api.ErrName)
		}
		is(t, fmt.Sprintf("ann of %.20q", n), d.Leave(n, "ann"), api.ErrName)
	}
	is(t, "no such user", d.Leave("dev", "dan"), api.ErrNone)
	is(t, "no such group", d.Leave("none", "ann"), api.ErrNone)
	is(t, "neither", d.Leave("none", "dan"), api.ErrNone)
	is(t, "a group is no user", d.Leave("dev", "top"), api.ErrNone)
	is(t, "no member", d.Leave("top", "ann"), api.ErrState)
	is(t, "no member of any", d.Leave("dev", "cid"), api.ErrState)
	is(t, "no member, and disabled", d.Leave("ops", "bob"), api.ErrState)
	holds(t, "three", d, l, groups)
	is(t, "ann", d.Leave("dev", "ann"), api.OK)
	l[0].Groups = []string{"ops"}
	holds(t, "ann", d, l, groups)
	is(t, "ann, twice", d.Leave("dev", "ann"), api.ErrState)
	is(t, "one that is disabled", d.Leave("dev", "bob"), api.OK)
	l[1].Groups = nil
	holds(t, "bob", d, l, groups)
}

func TestP11_3Lookup(t *testing.T) {
	l, groups := three()
	d := some(t, l, groups)
	zero := func(what string, n string, want api.Errno) {
		t.Helper()
		u, e := d.Lookup(n)
		if u.Name != "" || u.Hash != "" || u.Mail != "" || u.Disabled || len(u.Groups) != 0 || e != want {
			t.Errorf("%s: %s, %d", what, shown([]api.User{u}), e)
		}
	}
	for _, n := range []string{"an", "anna", "dan", "dev", "abcdefghijkl"} {
		zero(n, n, api.ErrNone)
	}
	for _, n := range noNames {
		zero(fmt.Sprintf("%.20q", n), n, api.ErrName)
	}
	holds(t, "three", d, l, groups)
}

func TestP11_3Find(t *testing.T) {
	l, groups := three()
	d := some(t, l, groups)
	for m, want := range map[string]string{"a@b.c": "ann", "A@b.c": "ann", "a@B.C": "ann", "c@b.c": "cid", "C@B.c": "cid"} {
		if n, e := d.Find(m); n != want || e != api.OK {
			t.Errorf("%q: %q, %d", m, n, e)
		}
	}
	for _, m := range []string{"b@b.c", "ann@b.c", "a@b.cc", "a@b.c.c", "a@bb.c", "abcdefghijkl@0123.45"} {
		if n, e := d.Find(m); n != "" || e != api.ErrNone {
			t.Errorf("%q: %q, %d", m, n, e)
		}
	}
	for _, m := range append([]string{""}, noMails...) {
		if n, e := d.Find(m); n != "" || e != api.ErrMail {
			t.Errorf("%.20q: %q, %d", m, n, e)
		}
	}
}

func TestP11_3List(t *testing.T) {
	d := some(t, called("abcdefghijkl", "an", "ann", "ann-b", "ann.c", "anna", "b", "bob", "n.ann"), named(2))
	for prefix, want := range map[string][]string{
		"":             {"abcdefghijkl", "an", "ann", "ann-b", "ann.c", "anna", "b", "bob", "n.ann"},
		"a":            {"abcdefghijkl", "an", "ann", "ann-b", "ann.c", "anna"},
		"an":           {"an", "ann", "ann-b", "ann.c", "anna"},
		"ann":          {"ann", "ann-b", "ann.c", "anna"},
		"ann-":         {"ann-b"},
		"ann.":         {"ann.c"},
		"b":            {"b", "bob"},
		"bob":          {"bob"},
		"n":            {"n.ann"},
		"abcdefghijkl": {"abcdefghijkl"},
		"annab":        nil, "g": nil, "o": nil, "0": nil, "-": nil, ".": nil, ".ann": nil, "-.-": nil, "abcdefghijkm": nil,
	} {
		for range 5 {
			if l, e := d.List(prefix); !slices.Equal(l, want) || e != api.OK {
				t.Errorf("%q: %q, %d, not %q", prefix, l, e, want)
			}
		}
	}
	for _, d := range []*newer.Dir{newer.New(), d} {
		for _, prefix := range []string{"A", "aN", "ann ", " ", "_", "*", "a@", "ä", "\x00", "\xff", "abcdefghijklm", strings.Repeat("a", 1<<16)} {
			if l, e := d.List(prefix); len(l) != 0 || e != api.ErrName {
				t.Errorf("%.20q: %q, %d", prefix, l, e)
			}
		}
	}
}

func TestP11_3Members(t *testing.T) {
	d := newer.New()
	is(t, "dev", d.MakeGroup("dev"), api.OK)
	is(t, "ops", d.MakeGroup("ops"), api.OK)
	for _, n := range []string{"b", "a.b", "aa", "a-b", "a", "a0"} {
		is(t, n, d.Create(n, "1"), api.OK)
		is(t, n, d.Join("dev", n), api.OK)
	}
	for range 20 {
		if l, e := d.Members("dev"); !slices.Equal(l, []string{"a", "a-b", "a.b", "a0", "aa", "b"}) || e != api.OK {
			t.Errorf("%q, %d", l, e)
		}
	}
	if l, e := d.Members("ops"); len(l) != 0 || e != api.OK {
		t.Errorf("%q, %d", l, e)
	}
	for _, g := range []string{"a", "de", "devs", "z"} {
		if l, e := d.Members(g); len(l) != 0 || e != api.ErrNone {
			t.Errorf("%q: %q, %d", g, l, e)
		}
	}
	for _, g := range noNames {
		if l, e := d.Members(g); len(l) != 0 || e != api.ErrName {
			t.Errorf("%.20q: %q, %d", g, l, e)
		}
	}
}
