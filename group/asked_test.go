package group_test

import (
	"fmt"
	"slices"
	"testing"

	"interrex/api"
	"interrex/group"
)

// However the groups came, and whoever else is in them, they rise.
func TestP10_2OfRises(t *testing.T) {
	g := group.New()
	for _, name := range []string{"b", "a.b", "aa", "a-b", "a", "a0"} {
		is(t, name, g.Make(name), api.OK)
		is(t, "ann in "+name, g.Join(name, "ann"), api.OK)
	}
	for _, name := range []string{"a0", "b", "a-b"} {
		is(t, "bob in "+name, g.Join(name, "bob"), api.OK)
	}
	for range 20 {
		if l := g.Of("ann"); !slices.Equal(l, []string{"a", "a-b", "a.b", "a0", "aa", "b"}) {
			t.Fatal(l)
		}
		if l := g.Of("bob"); !slices.Equal(l, []string{"a-b", "a0", "b"}) {
			t.Fatal(l)
		}
	}
}

// Whoever is no member, or no name at all, is in no group.
func TestP10_2OfNone(t *testing.T) {
	g := some(t, have{"dev": {"ann", "ann-b"}, "ops": nil})
	for _, n := range append([]string{"an", "anna", "ann-", "dev", "ops", "cid"}, noNames...) {
		if l := g.Of(n); len(l) != 0 {
			t.Errorf("%.20q: %q", n, l)
		}
	}
	is(t, "a member with a group's name", g.Join("dev", "ops"), api.OK)
	if l := g.Of("ops"); !slices.Equal(l, []string{"dev"}) {
		t.Error(l)
	}
}

func TestP10_2All(t *testing.T) {
	g := group.New()
	for i, name := range []string{"b", "a.b", "aa", "a-b", "a", "a0"} {
		if l := g.All(); len(l) != i {
			t.Error(i, l)
		}
		is(t, name, g.Make(name), api.OK)
		is(t, "ann", g.Join(name, "ann"), api.OK)
	}
	for range 20 {
		if l := g.All(); !slices.Equal(l, []string{"a", "a-b", "a.b", "a0", "aa", "b"}) {
			t.Fatal(l)
		}
	}
	is(t, "Drop", g.Drop("a.b"), api.OK)
	if l := g.All(); !slices.Equal(l, []string{"a", "a-b", "a0", "aa", "b"}) {
		t.Error(l)
	}
}

// The next name is a member just where the old one was.
func TestP10_2Rename(t *testing.T) {
	g := some(t, have{"a": {"ann", "bob"}, "b": {"bob"}, "c": {"ann"}, "d": nil})
	is(t, "ann", g.Rename("ann", "cid"), api.OK)
	holds(t, "ann is cid", g, have{"a": {"bob", "cid"}, "b": {"bob"}, "c": {"cid"}, "d": nil})
	is(t, "the longest name", g.Rename("bob", "abcdefghijkl"), api.OK)
	holds(t, "bob is longer", g, have{"a": {"abcdefghijkl", "cid"}, "b": {"abcdefghijkl"}, "c": {"cid"}, "d": nil})
	is(t, "to a name that is free again", g.Rename("cid", "bob"), api.OK)
	is(t, "to a group's name", g.Rename("abcdefghijkl", "d"), api.OK)
	holds(t, "a group's name", g, have{"a": {"bob", "d"}, "b": {"d"}, "c": {"bob"}, "d": nil})
	is(t, "what left", g.Leave("c", "cid"), api.ErrState)
	is(t, "what came", g.Join("c", "bob"), api.ErrSame)
}

// A group's own name is no member's.
func TestP10_2RenameIsOfMembersAlone(t *testing.T) {
	g := some(t, have{"dev": {"ann"}, "ops": nil})
	is(t, "of a group", g.Rename("dev", "bob"), api.OK)
	holds(t, "of a group", g, have{"dev": {"ann"}, "ops": nil})
	is(t, "to its group's name", g.Rename("ann", "dev"), api.OK)
	holds(t, "to its group's name", g, have{"dev": {"dev"}, "ops": nil})
	is(t, "to its group's name again", g.Rename("dev", "ann"), api.OK)
	holds(t, "back again", g, have{"dev": {"ann"}, "ops": nil})
}

func TestP10_2RenameToItself(t *testing.T) {
	want := have{"dev": {"ann", "bob"}, "ops": {"ann"}}
	g := some(t, want)
	is(t, "ann", g.Rename("ann", "ann"), api.OK)
	is(t, "a member nowhere", g.Rename("cid", "cid"), api.OK)
	holds(t, "to itself", g, want)
}

// Of a member of no group, and of what is no name, nothing changes; it is no
// error, unless the next name is in use.
func TestP10_2RenameOfNone(t *testing.T) {
	want := have{"dev": {"ann", "bob"}, "ops": {"ann"}}
	g := some(t, want)
	for _, old := range append([]string{"cid", "an", "anna", "dev"}, noNames...) {
		is(t, fmt.Sprintf("%.20q", old), g.Rename(old, "dan"), api.OK)
		is(t, fmt.Sprintf("%.20q to a member", old), g.Rename(old, "bob"), api.ErrSame)
		is(t, fmt.Sprintf("%.20q to no name", old), g.Rename(old, "Bob"), api.ErrName)
	}
	holds(t, "of none", g, want)
	if l := g.Of("dan"); len(l) != 0 {
		t.Error(l)
	}
}

// The next name may be a member nowhere, also not where the old one isn't.
func TestP10_2RenameWhatMayNotBe(t *testing.T) {
	want := have{"dev": {"ann", "bob"}, "ops": {"cid"}, "top": {"bob"}}
	g := some(t, want)
	for _, next := range noNames {
		is(t, fmt.Sprintf("to %.20q", next), g.Rename("ann", next), api.ErrName)
		is(t, fmt.Sprintf("%.20q to itself", next), g.Rename(next, next), api.ErrName)
	}
	is(t, "to one of the same group", g.Rename("ann", "bob"), api.ErrSame)
	is(t, "and about", g.Rename("bob", "ann"), api.ErrSame)
	is(t, "to one of another group", g.Rename("ann", "cid"), api.ErrSame)
	holds(t, "three", g, want)
	is(t, "cid leaves", g.Leave("ops", "cid"), api.OK)
	is(t, "to one that left", g.Rename("ann", "cid"), api.OK)
	is(t, "bob's groups go", g.Drop("dev"), api.OK)
	is(t, "of one whose group is gone", g.Rename("cid", "eve"), api.OK)
	is(t, "to one whose group is gone", g.Rename("bob", "cid"), api.OK)
	holds(t, "in the end", g, have{"ops": nil, "top": {"cid"}})
}

func TestP10_2Remove(t *testing.T) {
	g := some(t, have{"a": {"ann", "bob"}, "b": {"bob"}, "c": {"ann"}, "d": {"ann"}, "e": nil})
	for _, c := range []struct {
		n    string
		of   int
		left have
	}{
		{"cid", 0, have{"a": {"ann", "bob"}, "b": {"bob"}, "c": {"ann"}, "d": {"ann"}, "e": nil}},
		{"a", 0, have{"a": {"ann", "bob"}, "b": {"bob"}, "c": {"ann"}, "d": {"ann"}, "e": nil}},
		{"ann", 3, have{"a": {"bob"}, "b": {"bob"}, "c": nil, "d": nil, "e": nil}},
		{"ann", 0, have{"a": {"bob"}, "b": {"bob"}, "c": nil, "d": nil, "e": nil}},
		{"bob", 2, have{"a": nil, "b": nil, "c": nil, "d": nil, "e": nil}},
	} {
		if n := g.Remove(c.n); n != c.of {
			t.Errorf("%q: %d, not %d", c.n, n, c.of)
		}
		holds(t, "without "+c.n, g, c.left)
	}
	for _, n := range noNames {
		if of := g.Remove(n); of != 0 {
			t.Errorf("%.20q: %d", n, of)
		}
	}
	is(t, "ann again", g.Join("c", "ann"), api.OK)
	holds(t, "ann again", g, have{"a": nil, "b": nil, "c": {"ann"}, "d": nil, "e": nil})
}

// Of as many groups as may be, too.
func TestP10_2RemoveOfAll(t *testing.T) {
	g := some(t, six())
	if n := g.Remove("ann"); n != api.MaxGroups {
		t.Error(n)
	}
	if n := g.Remove("n3"); n != 1 {
		t.Error(n)
	}
	want := six()
	for name := range want {
		want[name] = want[name][1:]
	}
	want["g3"] = nil
	holds(t, "without two", g, want)
}

func TestP10_2Copy(t *testing.T) {
	was := have{"dev": {"ann", "bob"}, "ops": {"bob"}, "top": nil}
	g := some(t, was)
	c := g.Copy()
	holds(t, "a copy", c, was)
	is(t, "Join", g.Join("top", "cid"), api.OK)
	is(t, "Leave", g.Leave("dev", "ann"), api.OK)
	is(t, "Rename", g.Rename("bob", "dan"), api.OK)
	is(t, "Drop", g.Drop("ops"), api.OK)
	is(t, "Make", g.Make("new"), api.OK)
	changed := have{"dev": {"dan"}, "new": nil, "top": {"cid"}}
	holds(t, "the copy of what changed", c, was)
	holds(t, "what changed", g, changed)
	is(t, "Join of the copy", c.Join("top", "eve"), api.OK)
	is(t, "Drop of the copy", c.Drop("dev"), api.OK)
	is(t, "Make of the copy", c.Make("new"), api.OK)
	is(t, "Join of the copy's new one", c.Join("new", "ann"), api.OK)
	if n := c.Remove("bob"); n != 1 {
		t.Error("Remove of the copy", n)
	}
	holds(t, "what a copy was made of", g, changed)
	holds(t, "the copy", c, have{"new": {"ann"}, "ops": nil, "top": {"eve"}})
}

// A copy of none, and of groups without members, is apart on both sides.
func TestP10_2CopyOfNone(t *testing.T) {
	g := group.New()
	c := g.Copy()
	is(t, "Make", c.Make("dev"), api.OK)
	holds(t, "what had none", g, nil)
	d := c.Copy()
	is(t, "Join", c.Join("dev", "ann"), api.OK)
	holds(t, "a copy without members", d, have{"dev": nil})
	is(t, "Join of the copy", d.Join("dev", "bob"), api.OK)
	holds(t, "what had none then", c, have{"dev": {"ann"}})
	is(t, "Make of the first one", g.Make("ops"), api.OK)
	holds(t, "the first one", g, have{"ops": nil})
}
