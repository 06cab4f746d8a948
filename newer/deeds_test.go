package newer_test

import (
	"fmt"
	"testing"

	"interrex/api"
	"interrex/newer"
)

func TestP11_2Example(t *testing.T) {
	d := newer.New()
	is(t, "Create", d.Create("ann", "1"), api.OK)
	is(t, "SetMail", d.SetMail("ann", "A@b.c"), api.OK)
	is(t, "Rename", d.Rename("ann", "bob"), api.OK)
	if n, e := d.Find("a@b.c"); n != "bob" || e != api.OK {
		t.Error(n, e)
	}
	holds(t, "bob", d, []api.User{{Name: "bob", Hash: "1", Mail: "a@b.c"}}, nil)
}

func TestP11_2Create(t *testing.T) {
	d := newer.New()
	is(t, "the shortest one", d.Create("m", "0"), api.OK)
	is(t, "the longest one", d.Create("abcdefghijkl", "0123456789ab"), api.OK)
	is(t, "a beginning of another one", d.Create("abc", "0"), api.OK)
	holds(t, "three", d, []api.User{{Name: "abc", Hash: "0"}, {Name: "abcdefghijkl", Hash: "0123456789ab"}, {Name: "m", Hash: "0"}}, nil)
}

func TestP11_2CreateWhatMayNotBe(t *testing.T) {
	l, groups := three()
	d := some(t, l, groups)
	for _, n := range noNames {
		is(t, fmt.Sprintf("name %.20q", n), d.Create(n, "1"), api.ErrName)
	}
	for _, h := range noSums {
		is(t, fmt.Sprintf("sum %.20q", h), d.Create("dan", h), api.ErrForm)
		is(t, fmt.Sprintf("sum %.20q of one that is there", h), d.Create("ann", h), api.ErrForm)
	}
	is(t, "the same sum", d.Create("ann", "1"), api.ErrSame)
	is(t, "another sum", d.Create("cid", "9"), api.ErrSame)
	is(t, "of one that is disabled", d.Create("bob", "9"), api.ErrSame)
	holds(t, "three", d, l, groups)
}

// There is room for just MaxUsers, and again once one is gone.
func TestP11_2CreateFull(t *testing.T) {
	l := people(api.MaxUsers + 1)
	d := newer.New()
	for i, u := range l[:api.MaxUsers] {
		is(t, fmt.Sprint(i), d.Create(u.Name, u.Hash), api.OK)
	}
	holds(t, "a full one", d, l[:api.MaxUsers], nil)
	is(t, "one more", d.Create(l[api.MaxUsers].Name, "1"), api.ErrFull)
	is(t, "one more, ahead of all", d.Create("a", "1"), api.ErrFull)
	is(t, "another sum in a full one", d.SetHash(l[0].Name, "99"), api.OK)
	is(t, "another name in a full one", d.Rename(l[0].Name, "a"), api.OK)
	is(t, "one less", d.Delete("a"), api.OK)
	is(t, "one more again", d.Create(l[api.MaxUsers].Name, l[api.MaxUsers].Hash), api.OK)
	holds(t, "full again", d, l[1:], nil)
	is(t, "one more than full again", d.Create(l[0].Name, "1"), api.ErrFull)
	is(t, "one more than was handed in", some(t, l[1:], nil).Create("a", "1"), api.ErrFull)
	is(t, "one more than was copied", d.Copy().Create("a", "1"), api.ErrFull)
}

// Of the errors of a full directory, ErrFull comes last.
func TestP11_2CreateTheOrderOfErrors(t *testing.T) {
	d := some(t, people(api.MaxUsers), nil)
	is(t, "no name, no sum, full", d.Create("A", "g"), api.ErrName)
	is(t, "no name, full", d.Create("A", "1"), api.ErrName)
	is(t, "no sum, there already, full", d.Create("n000000", "g"), api.ErrForm)
	is(t, "no sum, full", d.Create("a", "g"), api.ErrForm)
	is(t, "there already, full", d.Create("n000000", "1"), api.ErrSame)
	is(t, "full", d.Create("a", "1"), api.ErrFull)
	holds(t, "a full one", d, people(api.MaxUsers), nil)
}

func TestP11_2Delete(t *testing.T) {
	l, groups := three()
	d := some(t, l, groups)
	for _, n := range noNames {
		is(t, fmt.Sprintf("%.20q", n), d.Delete(n), api.ErrName)
	}
	for _, n := range []string{"an", "anna", "ann-c", "dev", "abcdefghijkl"} {
		is(t, n, d.Delete(n), api.ErrNone)
	}
	holds(t, "three", d, l, groups)
	is(t, "ann", d.Delete("ann"), api.OK)
	holds(t, "without ann", d, l[1:], groups)
	is(t, "ann, twice", d.Delete("ann"), api.ErrNone)
	_, e := d.Lookup("ann")
	is(t, "Lookup of ann", e, api.ErrNone)
	_, e = d.Find("a@b.c")
	is(t, "Find of ann's", e, api.ErrNone)
	is(t, "one that is disabled", d.Delete("bob"), api.OK)
	is(t, "cid", d.Delete("cid"), api.OK)
	holds(t, "without anybody", d, nil, groups)
}

// A user that is made again by the name of one that is gone has nothing of it;
// its address and its room are others' to have.
func TestP11_2DeleteAndCreate(t *testing.T) {
	l, groups := three()
	d := some(t, l, groups)
	is(t, "disabled", d.Disable("ann", true), api.OK)
	is(t, "gone", d.Delete("ann"), api.OK)
	is(t, "again", d.Create("ann", "7"), api.OK)
	l[0] = api.User{Name: "ann", Hash: "7"}
	holds(t, "again", d, l, groups)
	is(t, "its address is free", d.SetMail("cid", "a@b.c"), api.OK)
	is(t, "its groups are free", d.Join("dev", "ann"), api.OK)
	l[0].Groups, l[2].Mail = []string{"dev"}, "a@b.c"
	holds(t, "behind it", d, l, groups)
}

func TestP11_2SetHash(t *testing.T) {
	l, groups := three()
	d := some(t, l, groups)
	for _, n := range noNames {
		is(t, fmt.Sprintf("name %.20q", n), d.SetHash(n, "1"), api.ErrName)
		is(t, fmt.Sprintf("name %.20q, no sum", n), d.SetHash(n, "g"), api.ErrName)
	}
	for _, h := range noSums {
		is(t, fmt.Sprintf("sum %.20q", h), d.SetHash("ann", h), api.ErrForm)
		is(t, fmt.Sprintf("sum %.20q of none", h), d.SetHash("dan", h), api.ErrForm)
		is(t, fmt.Sprintf("sum %.20q of one that is disabled", h), d.SetHash("bob", h), api.ErrForm)
	}
	is(t, "of none", d.SetHash("dan", "1"), api.ErrNone)
	is(t, "of one that is disabled", d.SetHash("bob", "9"), api.ErrState)
	is(t, "the same one of one that is disabled", d.SetHash("bob", "2"), api.ErrState)
	holds(t, "three", d, l, groups)
	is(t, "ann", d.SetHash("ann", "0123456789ab"), api.OK)
	is(t, "the same sum", d.SetHash("cid", "3"), api.OK)
	l[0].Hash = "0123456789ab"
	holds(t, "another sum", d, l, groups)
	is(t, "bob isn't disabled any more", d.Disable("bob", false), api.OK)
	is(t, "bob", d.SetHash("bob", "3"), api.OK)
	l[1].Hash, l[1].Disabled = "3", false
	holds(t, "bob's", d, l, groups)
}

func TestP11_2SetMail(t *testing.T) {
	l, groups := three()
	d := some(t, l, groups)
	is(t, "another one, folded", d.SetMail("ann", "Ann-B@X9.ORG"), api.OK)
	l[0].Mail = "ann-b@x9.org"
	holds(t, "another one", d, l, groups)
	_, e := d.Find("a@b.c")
	is(t, "the one it had", e, api.ErrNone)
	is(t, "of one that is disabled", d.SetMail("bob", "a@b.c"), api.OK)
	l[1].Mail = "a@b.c"
	holds(t, "one that another one had", d, l, groups)
	is(t, "the same one", d.SetMail("bob", "a@B.C"), api.OK)
	is(t, "the longest one", d.SetMail("cid", "abcdefghijkl@0123.45"), api.OK)
	l[2].Mail = "abcdefghijkl@0123.45"
	holds(t, "the longest one", d, l, groups)
	is(t, "none", d.SetMail("ann", ""), api.OK)
	is(t, "none of one that has none", d.SetMail("ann", ""), api.OK)
	l[0].Mail = ""
	holds(t, "none", d, l, groups)
	_, e = d.Find("ann-b@x9.org")
	is(t, "nobody's any more", e, api.ErrNone)
}

func TestP11_2SetMailThatMayNotBe(t *testing.T) {
	l, groups := three()
	d := some(t, l, groups)
	for _, n := range noNames {
		for _, m := range []string{"", "?", "a@b.c", "z@b.c"} {
			is(t, fmt.Sprintf("name %.20q of %q", n, m), d.SetMail(n, m), api.ErrName)
		}
	}
	for _, m := range noMails {
		is(t, fmt.Sprintf("address %.20q", m), d.SetMail("ann", m), api.ErrMail)
		is(t, fmt.Sprintf("address %.20q of none", m), d.SetMail("dan", m), api.ErrMail)
	}
	is(t, "of none", d.SetMail("dan", "z@b.c"), api.ErrNone)
	is(t, "none of none", d.SetMail("dan", ""), api.ErrNone)
	is(t, "another one's, of none", d.SetMail("dan", "a@b.c"), api.ErrNone)
	is(t, "a group's", d.SetMail("dev", "z@b.c"), api.ErrNone)
	is(t, "another one's", d.SetMail("cid", "a@b.c"), api.ErrSame)
	is(t, "another one's, in great letters", d.SetMail("cid", "A@B.C"), api.ErrSame)
	is(t, "another one's, of one without", d.SetMail("bob", "c@b.C"), api.ErrSame)
	holds(t, "three", d, l, groups)
	_, e := d.Find("z@b.c")
	is(t, "nobody's", e, api.ErrNone)
}

func TestP11_2Disable(t *testing.T) {
	l, groups := three()
	d := some(t, l, groups)
	for _, disabled := range []bool{false, true} {
		for _, n := range noNames {
			is(t, fmt.Sprintf("name %.20q", n), d.Disable(n, disabled), api.ErrName)
		}
		for _, n := range []string{"dan", "dev", "an", "anna"} {
			is(t, n, d.Disable(n, disabled), api.ErrNone)
		}
	}
	is(t, "it is already", d.Disable("bob", true), api.ErrState)
	is(t, "it isn't already", d.Disable("ann", false), api.ErrState)
	holds(t, "three", d, l, groups)
	is(t, "ann is", d.Disable("ann", true), api.OK)
	is(t, "bob isn't", d.Disable("bob", false), api.OK)
	is(t, "ann is already", d.Disable("ann", true), api.ErrState)
	is(t, "bob isn't already", d.Disable("bob", false), api.ErrState)
	l[0].Disabled, l[1].Disabled = true, false
	holds(t, "turned", d, l, groups)
	is(t, "ann isn't", d.Disable("ann", false), api.OK)
	l[0].Disabled = false
	holds(t, "turned again", d, l, groups)
	is(t, "a sum again", d.SetHash("ann", "7"), api.OK)
}

// All else stays: the sum, the address, whether it is disabled, the groups.
func TestP11_2Rename(t *testing.T) {
	l, groups := three()
	d := some(t, l, groups)
	is(t, "ann", d.Rename("ann", "abcdefghijkl"), api.OK)
	l[0].Name = "abcdefghijkl"
	holds(t, "ann", d, l, groups)
	_, e := d.Lookup("ann")
	is(t, "the old one", e, api.ErrNone)
	is(t, "one that is disabled, without an address", d.Rename("bob", "dev"), api.OK)
	l[1].Name = "dev"
	l[1], l[2] = l[2], l[1]
	holds(t, "bob", d, l, groups)
	is(t, "one without groups, to a name that was another one's", d.Rename("cid", "ann"), api.OK)
	l[1].Name = "ann"
	holds(t, "cid", d, l, groups)
	is(t, "back", d.Rename("ann", "cid"), api.OK)
	is(t, "a new one by the old name", d.Create("ann", "9"), api.OK)
	l[1].Name = "cid"
	holds(t, "a new one", d, []api.User{l[0], {Name: "ann", Hash: "9"}, l[1], l[2]}, groups)
}

func TestP11_2RenameThatMayNotBe(t *testing.T) {
	l, groups := three()
	d := some(t, l, groups)
	for _, n := range noNames {
		for _, other := range []string{"ann", "bob", "dan", n, "?"} {
			is(t, fmt.Sprintf("%.20q to %.20q", n, other), d.Rename(n, other), api.ErrName)
			is(t, fmt.Sprintf("%.20q to %.20q", other, n), d.Rename(other, n), api.ErrName)
		}
	}
	is(t, "none", d.Rename("dan", "eve"), api.ErrNone)
	is(t, "none to itself", d.Rename("dan", "dan"), api.ErrNone)
	is(t, "none to one that is there", d.Rename("dan", "ann"), api.ErrNone)
	is(t, "a group", d.Rename("dev", "eve"), api.ErrNone)
	for _, u := range l {
		for _, v := range l {
			is(t, u.Name+" to "+v.Name, d.Rename(u.Name, v.Name), api.ErrSame)
		}
	}
	holds(t, "three", d, l, groups)
}
