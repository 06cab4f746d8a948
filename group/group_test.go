package group_test

import (
	"fmt"
	"maps"
	"slices"
	"strings"
	"testing"

	"interrex/api"
	"interrex/group"
)

// is tells whether an error is the one that was wanted.
func is(t *testing.T, what string, e, want api.Errno) {
	t.Helper()
	if e != want {
		t.Errorf("%s: error %d, not %d", what, e, want)
	}
}

// have is members, rising, by groups.
type have map[string][]string

// some is the groups that have these.
func some(t *testing.T, h have) *group.Groups {
	t.Helper()
	g := group.New()
	for name, members := range h {
		is(t, "Make of "+name, g.Make(name), api.OK)
		for _, n := range members {
			is(t, "Join of "+n, g.Join(name, n), api.OK)
		}
	}
	return g
}

// of tells the groups of which a name is a member, rising.
func (h have) of(n string) []string {
	var l []string
	for _, name := range slices.Sorted(maps.Keys(h)) {
		if slices.Contains(h[name], n) {
			l = append(l, name)
		}
	}
	return l
}

// texts is all that stands anywhere, and what never does.
func (h have) texts() []string {
	l := append([]string{"nobody", "an", "anna", "ann.bob"}, noNames...)
	for name, members := range h {
		l = append(append(l, name), members...)
	}
	return l
}

// holds holds all that groups tell against what they should have.
func holds(t *testing.T, what string, g *group.Groups, want have) {
	t.Helper()
	if l, names := g.All(), slices.Sorted(maps.Keys(want)); !slices.Equal(l, names) {
		t.Errorf("%s: All is %q, not %q", what, l, names)
	}
	for name, members := range want {
		if l, e := g.Members(name); !slices.Equal(l, members) || e != api.OK {
			t.Errorf("%s: Members(%q) is %q, %d, not %q", what, name, l, e, members)
		}
	}
	for _, n := range want.texts() {
		if l := g.Of(n); !slices.Equal(l, want.of(n)) {
			t.Errorf("%s: Of(%.20q) is %q, not %q", what, n, l, want.of(n))
		}
	}
}

// hasNone tells whether the members of a group are refused.
func hasNone(t *testing.T, what string, g *group.Groups, name string, want api.Errno) {
	t.Helper()
	if l, e := g.Members(name); len(l) != 0 || e != want {
		t.Errorf("%s: Members(%.20q) is %q, error %d, not %d", what, name, l, e, want)
	}
}

// noNames is what no name is.
var noNames = []string{"", "A", "Ann", "9a", "-a", ".a", "a-", "a.", "a b", "a_b", "a@b.c", "ä", "a\x00", "a\xff", "abcdefghijklm", strings.Repeat("a", 1<<16)}

func TestP10_1New(t *testing.T) {
	g := group.New()
	holds(t, "a new one", g, nil)
	hasNone(t, "a new one", g, "dev", api.ErrNone)
	is(t, "Drop", g.Drop("dev"), api.ErrNone)
	is(t, "Join", g.Join("dev", "ann"), api.ErrNone)
	is(t, "Leave", g.Leave("dev", "ann"), api.ErrNone)
	is(t, "Rename", g.Rename("ann", "bob"), api.OK)
	if n := g.Remove("ann"); n != 0 {
		t.Error("Remove", n)
	}
	holds(t, "a new one, asked", g, nil)
	holds(t, "its copy", g.Copy(), nil)
}

// Each new one has its own groups.
func TestP10_1NewIsApart(t *testing.T) {
	a, b := group.New(), group.New()
	is(t, "Make", a.Make("dev"), api.OK)
	is(t, "Join", a.Join("dev", "ann"), api.OK)
	holds(t, "the other one", b, nil)
	is(t, "the same group there", b.Make("dev"), api.OK)
	holds(t, "the other one's group", b, have{"dev": nil})
	holds(t, "the first one", a, have{"dev": {"ann"}})
	holds(t, "one more", group.New(), nil)
}

func TestP10_2OfExample(t *testing.T) {
	g := group.New()
	is(t, "Make", g.Make("dev"), api.OK)
	is(t, "Join", g.Join("dev", "ann"), api.OK)
	if l := g.Of("ann"); !slices.Equal(l, []string{"dev"}) {
		t.Error(l)
	}
	holds(t, "the example", g, have{"dev": {"ann"}})
}

// A group is made without members, also where there was one of that name.
func TestP10_1Make(t *testing.T) {
	g := some(t, have{"dev": {"ann"}})
	is(t, "the shortest name", g.Make("z"), api.OK)
	is(t, "the longest name", g.Make("abcdefghijkl"), api.OK)
	is(t, "a beginning of another one", g.Make("de"), api.OK)
	is(t, "a member's name", g.Make("ann"), api.OK)
	holds(t, "five", g, have{"abcdefghijkl": nil, "ann": nil, "de": nil, "dev": {"ann"}, "z": nil})
	is(t, "Drop", g.Drop("dev"), api.OK)
	is(t, "again", g.Make("dev"), api.OK)
	holds(t, "again", g, have{"abcdefghijkl": nil, "ann": nil, "de": nil, "dev": nil, "z": nil})
}

func TestP10_1MakeWhatMayNotBe(t *testing.T) {
	want := have{"dev": {"ann"}, "ops": nil}
	g := some(t, want)
	for _, n := range noNames {
		is(t, fmt.Sprintf("%.20q", n), g.Make(n), api.ErrName)
	}
	is(t, "one with members", g.Make("dev"), api.ErrSame)
	is(t, "one without members", g.Make("ops"), api.ErrSame)
	holds(t, "two", g, want)
}

// six is as many groups as may be.
func six() have {
	h := have{}
	for i := range api.MaxGroups {
		h[fmt.Sprintf("g%d", i)] = []string{"ann", fmt.Sprintf("n%d", i)}
	}
	return h
}

// There is room for just MaxGroups, and again once one is gone.
func TestP10_1MakeFull(t *testing.T) {
	want := six()
	g := some(t, want)
	is(t, "one more", g.Make("z"), api.ErrFull)
	is(t, "one more, ahead of all", g.Make("a"), api.ErrFull)
	holds(t, "six", g, want)
	is(t, "one more than was copied", g.Copy().Make("z"), api.ErrFull)
	is(t, "a member in a full one", g.Join("g3", "bob"), api.OK)
	is(t, "Drop of none", g.Drop("z"), api.ErrNone)
	is(t, "still one more", g.Make("z"), api.ErrFull)
	is(t, "one less", g.Drop("g3"), api.OK)
	is(t, "one more again", g.Make("z"), api.OK)
	delete(want, "g3")
	want["z"] = nil
	holds(t, "six again", g, want)
	is(t, "more than six again", g.Make("g3"), api.ErrFull)
}

// Of the errors of full groups, ErrFull comes last.
func TestP10_1MakeTheOrderOfErrors(t *testing.T) {
	g := some(t, six())
	is(t, "no name, full", g.Make("G0"), api.ErrName)
	is(t, "there already, full", g.Make("g0"), api.ErrSame)
	is(t, "full", g.Make("dev"), api.ErrFull)
	holds(t, "six", g, six())
}

// A group goes with its members; they stay in the others.
func TestP10_1Drop(t *testing.T) {
	want := have{"dev": {"ann", "bob"}, "dev-2": {"ann"}, "ops": {"bob"}}
	g := some(t, want)
	for _, n := range noNames {
		is(t, fmt.Sprintf("%.20q", n), g.Drop(n), api.ErrName)
	}
	for _, n := range []string{"de", "deva", "dev-3", "ann", "abcdefghijkl"} {
		is(t, n, g.Drop(n), api.ErrNone)
	}
	holds(t, "three", g, want)
	is(t, "dev", g.Drop("dev"), api.OK)
	holds(t, "without dev", g, have{"dev-2": {"ann"}, "ops": {"bob"}})
	hasNone(t, "without dev", g, "dev", api.ErrNone)
	is(t, "dev, twice", g.Drop("dev"), api.ErrNone)
	is(t, "Join of dev", g.Join("dev", "cid"), api.ErrNone)
	is(t, "Leave of dev", g.Leave("dev", "ann"), api.ErrNone)
	is(t, "dev-2", g.Drop("dev-2"), api.OK)
	is(t, "ops", g.Drop("ops"), api.OK)
	holds(t, "without any", g, nil)
	is(t, "dev again", g.Make("dev"), api.OK)
	holds(t, "dev again", g, have{"dev": nil})
}

func TestP10_1Join(t *testing.T) {
	g := some(t, have{"dev": nil, "ops": nil})
	is(t, "bob", g.Join("dev", "bob"), api.OK)
	is(t, "ann", g.Join("dev", "ann"), api.OK)
	is(t, "ann in the other one", g.Join("ops", "ann"), api.OK)
	is(t, "the shortest name", g.Join("ops", "z"), api.OK)
	is(t, "the longest name", g.Join("ops", "abcdefghijkl"), api.OK)
	is(t, "a group's name", g.Join("ops", "ops"), api.OK)
	is(t, "another group's name", g.Join("dev", "ops"), api.OK)
	holds(t, "two", g, have{"dev": {"ann", "bob", "ops"}, "ops": {"abcdefghijkl", "ann", "ops", "z"}})
}

// There is room for any number of members.
func TestP10_1JoinMany(t *testing.T) {
	g := some(t, have{"dev": nil, "ops": {"ann"}})
	want := have{"dev": nil, "ops": {"ann"}}
	for i := range 1000 {
		n := fmt.Sprintf("n%03d", i)
		is(t, n, g.Join("dev", n), api.OK)
		want["dev"] = append(want["dev"], n)
	}
	holds(t, "a thousand", g, want)
}

// Of several errors it is ErrName ahead of ErrNone ahead of ErrSame.
func TestP10_1JoinWhatMayNotBe(t *testing.T) {
	want := have{"dev": {"ann"}, "ops": nil}
	g := some(t, want)
	for _, n := range noNames {
		is(t, fmt.Sprintf("group %.20q", n), g.Join(n, "bob"), api.ErrName)
		is(t, fmt.Sprintf("group %.20q, a member elsewhere", n), g.Join(n, "ann"), api.ErrName)
		is(t, fmt.Sprintf("name %.20q", n), g.Join("dev", n), api.ErrName)
		is(t, fmt.Sprintf("name %.20q, no such group", n), g.Join("none", n), api.ErrName)
		is(t, fmt.Sprintf("both %.20q", n), g.Join(n, n), api.ErrName)
	}
	for _, n := range []string{"de", "deva", "dev-2", "ann", "abcdefghijkl"} {
		is(t, n, g.Join(n, "bob"), api.ErrNone)
		is(t, n+", a member elsewhere", g.Join(n, "ann"), api.ErrNone)
	}
	is(t, "one that is a member", g.Join("dev", "ann"), api.ErrSame)
	holds(t, "two", g, want)
}

func TestP10_1Leave(t *testing.T) {
	g := some(t, have{"dev": {"ann", "ann-b", "bob"}, "ops": {"ann"}})
	is(t, "ann", g.Leave("dev", "ann"), api.OK)
	holds(t, "without ann", g, have{"dev": {"ann-b", "bob"}, "ops": {"ann"}})
	is(t, "ann, twice", g.Leave("dev", "ann"), api.ErrState)
	is(t, "bob", g.Leave("dev", "bob"), api.OK)
	is(t, "ann-b", g.Leave("dev", "ann-b"), api.OK)
	holds(t, "without any", g, have{"dev": nil, "ops": {"ann"}})
	is(t, "ann again", g.Join("dev", "ann"), api.OK)
	is(t, "ann of the other one", g.Leave("ops", "ann"), api.OK)
	holds(t, "ann again", g, have{"dev": {"ann"}, "ops": nil})
}

// Of several errors it is ErrName ahead of ErrNone ahead of ErrState.
func TestP10_1LeaveWhatMayNotBe(t *testing.T) {
	want := have{"dev": {"ann"}, "ops": {"bob"}}
	g := some(t, want)
	for _, n := range noNames {
		is(t, fmt.Sprintf("group %.20q", n), g.Leave(n, "ann"), api.ErrName)
		is(t, fmt.Sprintf("name %.20q", n), g.Leave("dev", n), api.ErrName)
		is(t, fmt.Sprintf("name %.20q, no such group", n), g.Leave("none", n), api.ErrName)
		is(t, fmt.Sprintf("both %.20q", n), g.Leave(n, n), api.ErrName)
	}
	for _, n := range []string{"de", "deva", "dev-2", "ann", "abcdefghijkl"} {
		is(t, n, g.Leave(n, "ann"), api.ErrNone)
		is(t, n+", a member nowhere", g.Leave(n, "cid"), api.ErrNone)
	}
	for _, n := range []string{"bob", "cid", "an", "anna", "dev"} {
		is(t, n, g.Leave("dev", n), api.ErrState)
	}
	holds(t, "two", g, want)
}

// However the members came, they rise.
func TestP10_1Members(t *testing.T) {
	g := some(t, have{"dev": {"b", "a.b", "aa", "a-b", "a", "a0", "z9", "c", "abcdefghijkl"}, "ops": nil})
	want := []string{"a", "a-b", "a.b", "a0", "aa", "abcdefghijkl", "b", "c", "z9"}
	for range 20 {
		if l, e := g.Members("dev"); !slices.Equal(l, want) || e != api.OK {
			t.Fatal(l, e)
		}
	}
	if l, e := g.Members("ops"); len(l) != 0 || e != api.OK {
		t.Error("without members", l, e)
	}
	for _, n := range noNames {
		hasNone(t, "no name", g, n, api.ErrName)
	}
	for _, n := range []string{"de", "deva", "dev-2", "a", "abcdefghijkl"} {
		hasNone(t, "no such group", g, n, api.ErrNone)
	}
}
