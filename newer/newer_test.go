package newer_test

import (
	"fmt"
	"slices"
	"strings"
	"testing"

	"interrex/api"
	"interrex/newer"
	"interrex/user"
)

// is tells whether an error is the one that was wanted.
func is(t *testing.T, what string, e, want api.Errno) {
	t.Helper()
	if e != want {
		t.Errorf("%s: error %d, not %d", what, e, want)
	}
}

// people is so many users whose names rise, with nothing but a sum.
func people(n int) []api.User {
	l := make([]api.User, n)
	for i := range l {
		l[i] = api.User{Name: fmt.Sprintf("n%06d", i), Hash: fmt.Sprintf("%x", i)}
	}
	return l
}

// named is so many groups whose names rise.
func named(n int) []string {
	l := make([]string, n)
	for i := range l {
		l[i] = fmt.Sprintf("g%06d", i)
	}
	return l
}

// three is users that have all that a user may have, and groups of which one
// has no member.
func three() ([]api.User, []string) {
	return []api.User{
		{Name: "ann", Hash: "1", Mail: "a@b.c", Groups: []string{"dev", "ops"}},
		{Name: "bob", Hash: "2", Disabled: true, Groups: []string{"dev"}},
		{Name: "cid", Hash: "3", Mail: "c@b.c"},
	}, []string{"dev", "ops", "top"}
}

// some is the directory of these.
func some(t *testing.T, l []api.User, groups []string) *newer.Dir {
	t.Helper()
	d, e := newer.Of(l, groups)
	if d == nil || e != api.OK {
		t.Fatalf("Of(%s, %q): %d", shown(l), groups, e)
	}
	return d
}

// shown is users as a text.
func shown(l []api.User) string {
	var s []string
	for _, u := range l {
		s = append(s, fmt.Sprintf("%.20q:%.20q:%.20q:%v:%.90q", u.Name, u.Hash, u.Mail, u.Disabled, u.Groups))
	}
	return strings.Join(s, " ")
}

// holds holds all that a directory tells against what it should have.
func holds(t *testing.T, what string, d *newer.Dir, want []api.User, groups []string) {
	t.Helper()
	if all := d.All(); !slices.EqualFunc(all, want, user.Same) {
		t.Errorf("%s: All is %s, not %s", what, shown(all), shown(want))
	}
	if d.Len() != len(want) {
		t.Errorf("%s: Len is %d, not %d", what, d.Len(), len(want))
	}
	if l := d.Groups(); !slices.Equal(l, groups) {
		t.Errorf("%s: Groups is %q, not %q", what, l, groups)
	}
	holdsUsers(t, what, d, want)
	for _, g := range groups {
		var members []string
		for _, u := range want {
			if user.In(u, g) {
				members = append(members, u.Name)
			}
		}
		if l, e := d.Members(g); !slices.Equal(l, members) || e != api.OK {
			t.Errorf("%s: Members(%q) is %q, %d, not %q", what, g, l, e, members)
		}
	}
}

// holdsUsers holds what is told of one user against the users that it should
// have.
func holdsUsers(t *testing.T, what string, d *newer.Dir, want []api.User) {
	t.Helper()
	var names []string
	for _, u := range want {
		names = append(names, u.Name)
		if v, e := d.Lookup(u.Name); !user.Same(u, v) || e != api.OK {
			t.Errorf("%s: Lookup(%q) is %s, %d, not %s", what, u.Name, shown([]api.User{v}), e, shown([]api.User{u}))
		}
		if u.Mail == "" {
			continue
		}
		if n, e := d.Find(u.Mail); n != u.Name || e != api.OK {
			t.Errorf("%s: Find(%q) is %q, %d, not %q", what, u.Mail, n, e, u.Name)
		}
	}
	if l, e := d.List(""); !slices.Equal(l, names) || e != api.OK {
		t.Errorf("%s: List is %q, %d, not %q", what, l, e, names)
	}
}

// noNames, noSums and noMails are what no name, no sum and no address is.
var (
	noNames = []string{"", "A", "Ann", "9a", "-a", ".a", "a-", "a.", "a b", "a_b", "a@b.c", "ä", "a\x00", "a\xff", "abcdefghijklm", strings.Repeat("a", 1<<16)}
	noSums  = []string{"", "g", "A", "F0", "-1", " 1", "1 ", "0x1", "\x00", "1\xff", "0123456789abc", strings.Repeat("1", 1<<16)}
	noMails = []string{" ", "a", "@", "a@", "@b.c", "a@b", "a@b.", "a@.c", "a@b..c", "a@@b.c", "a@b@c.d", "9@b.c", "a-@b.c", "a@b-c.d", "a b@c.d", "ä@b.c", "a@b.c\x00", "\xff@b.c", "a@b.c ", "abcdefghijklm@b.c", "a@bcdefghijklmnopqr.s", "a@b." + strings.Repeat("c", 1<<16)}
)

func TestP11_1New(t *testing.T) {
	d := newer.New()
	holds(t, "a new one", d, nil, nil)
	for what, e := range map[string]api.Errno{
		"Delete": d.Delete("a"), "SetHash": d.SetHash("a", "1"), "SetMail": d.SetMail("a", "a@b.c"),
		"Disable": d.Disable("a", true), "Rename": d.Rename("a", "b"), "DropGroup": d.DropGroup("a"),
		"Join": d.Join("a", "a"), "Leave": d.Leave("a", "a"),
	} {
		is(t, what, e, api.ErrNone)
	}
	_, e := d.Find("a@b.c")
	is(t, "Find", e, api.ErrNone)
	holds(t, "a new one, asked", d, nil, nil)
	holds(t, "its copy", d.Copy(), nil, nil)
}

// Each new one has its own users and groups.
func TestP11_1NewIsApart(t *testing.T) {
	a, b := newer.New(), newer.New()
	a.Create("a", "1")
	a.SetMail("a", "a@b.c")
	a.MakeGroup("dev")
	holds(t, "the other one", b, nil, nil)
	b.Create("b", "2")
	is(t, "the same address", b.SetMail("b", "a@b.c"), api.OK)
	holds(t, "the first one", a, []api.User{{Name: "a", Hash: "1", Mail: "a@b.c"}}, []string{"dev"})
	holds(t, "one more", newer.New(), nil, nil)
}

// Of so many users and groups as may be; nil and empty lists are the same.
func TestP11_1Of(t *testing.T) {
	for _, l := range [][]api.User{nil, {}, make([]api.User, 0, 3)} {
		for _, groups := range [][]string{nil, {}, make([]string, 0, 3)} {
			d := some(t, l, groups)
			holds(t, "of nothing", d, nil, nil)
			is(t, "Create", d.Create("a", "1"), api.OK)
			is(t, "MakeGroup", d.MakeGroup("a"), api.OK)
		}
	}
	for n := range api.MaxUsers + 1 {
		holds(t, fmt.Sprint(n), some(t, people(n), nil), people(n), nil)
	}
	for n := range api.MaxGroups + 1 {
		holds(t, fmt.Sprint(n), some(t, nil, named(n)), nil, named(n))
	}
	l, groups := three()
	holds(t, "three", some(t, l, groups), l, groups)
}

// All users are in all groups, and each has an address.
func TestP11_1OfAllThatMayBe(t *testing.T) {
	l, groups := people(api.MaxUsers), named(api.MaxGroups)
	for i := range l {
		l[i].Mail = fmt.Sprintf("%s@x%x.y", l[i].Name, i)
		l[i].Disabled = i%2 == 0
		l[i].Groups = groups
	}
	holds(t, "all", some(t, l, groups), l, groups)
	l = []api.User{{Name: "a", Hash: "1", Groups: []string{}}, {Name: "a-b", Hash: "1"}, {Name: "a.b", Hash: "0123456789ab"}, {Name: "a0", Hash: "1", Mail: "ab.c-d@e.fghijklmnop"}, {Name: "aa", Hash: "f"}, {Name: "abcdefghijkl", Hash: "0", Mail: "abcdefghijkl@b.c"}, {Name: "b", Hash: "1", Groups: []string{"a-b", "a.b", "a0"}}}
	groups = []string{"a", "a-b", "a.b", "a0", "aa", "abcdefghijkl"}
	holds(t, "of many kinds of names", some(t, l, groups), l, groups)
}

// refused tells whether no directory is of these, by that error.
func refused(t *testing.T, what string, l []api.User, groups []string, want api.Errno) {
	t.Helper()
	if d, e := newer.Of(l, groups); d != nil || e != want {
		t.Errorf("%s: %v, error %d, not %d", what, d, e, want)
	}
}

// Check's errors, of the first, those in the midst and the last user.
func TestP11_1OfUsersThatMayNotBe(t *testing.T) {
	u := api.User{Name: "n000001a", Hash: "1"}
	groups := func(l ...string) api.User { return api.User{Name: u.Name, Hash: u.Hash, Groups: l} }
	bad := map[api.Errno][]api.User{
		api.ErrForm: {{Name: u.Name}, {Name: u.Name, Hash: "g", Mail: "?", Groups: []string{"?"}}},
		api.ErrMail: {{Name: u.Name, Hash: "1", Mail: "A@b.c"}, {Name: u.Name, Hash: "1", Mail: "?", Groups: []string{"?"}}},
		api.ErrName: {{}, {Hash: "1"}, {Name: "N", Hash: "g", Mail: "?"}, groups("g000000", "?"), groups("?", "g000000")},
		api.ErrFull: {groups(named(api.MaxGroups + 1)...), groups("", "", "", "", "", "", "")},
		api.ErrSame: {groups("g000000", "g000000"), groups("g000001", "g000000"), groups("a", "c", "b")},
	}
	for _, n := range noNames {
		bad[api.ErrName] = append(bad[api.ErrName], api.User{Name: n, Hash: "1"})
	}
	for _, h := range noSums {
		bad[api.ErrForm] = append(bad[api.ErrForm], api.User{Name: u.Name, Hash: h})
	}
	for _, m := range noMails {
		bad[api.ErrMail] = append(bad[api.ErrMail], api.User{Name: u.Name, Hash: "1", Mail: m})
	}
	for want, users := range bad {
		for _, u := range users {
			for i := range 4 {
				refused(t, fmt.Sprintf("%s at %d", shown([]api.User{u}), i), slices.Insert(people(3), i, u), named(6), want)
			}
		}
	}
}

// Of several users that may not be the first one counts, whatever its error is.
func TestP11_1OfOneByOne(t *testing.T) {
	bad := map[api.Errno]api.User{
		api.ErrName: {Name: "A", Hash: "1"},
		api.ErrForm: {Name: "a", Hash: "g"},
		api.ErrMail: {Name: "a", Hash: "1", Mail: "?"},
		api.ErrFull: {Name: "a", Hash: "1", Groups: named(7)},
		api.ErrSame: {Name: "a", Hash: "1", Groups: []string{"b", "a"}},
	}
	for want, u := range bad {
		for _, v := range bad {
			refused(t, "two that may not be", []api.User{u, v}, named(6), want)
			refused(t, "two that may not be, others ahead", append(people(2), u, v), named(6), want)
		}
	}
}

// called is users of these names.
func called(names ...string) []api.User {
	var l []api.User
	for _, n := range names {
		l = append(l, api.User{Name: n, Hash: "1"})
	}
	return l
}

func TestP11_1OfWhatDoesntRise(t *testing.T) {
	for _, l := range [][]string{
		{"a", "a"}, {"b", "a"}, {"a", "b", "b"}, {"a", "b", "a"}, {"a", "a", "b"}, {"b", "a", "c"}, {"a", "c", "b", "d"},
		{"ab", "a"}, {"a0", "a-b"}, {"a0", "a.b"}, {"aa", "a0"}, {"a.b", "a-b"}, {"a", "b", "c", "d", "f", "e"},
	} {
		refused(t, fmt.Sprintf("users %q", l), called(l...), nil, api.ErrSame)
		refused(t, fmt.Sprintf("groups %q", l), nil, l, api.ErrSame)
		refused(t, fmt.Sprintf("groups %q of users", l), called("a", "b"), l, api.ErrSame)
	}
	refused(t, "the last two users", called("a", "b", "c", "d", "e", "f", "g", "h", "i", "j", "l", "k"), nil, api.ErrSame)
	refused(t, "the same name with another sum", []api.User{{Name: "a", Hash: "1"}, {Name: "a", Hash: "2"}}, nil, api.ErrSame)
}

func TestP11_1OfTooMany(t *testing.T) {
	for _, n := range []int{api.MaxUsers + 1, api.MaxUsers + 2, 255, 256, 256 + api.MaxUsers, 1<<16 + 1} {
		refused(t, fmt.Sprint(n, " users"), people(n), nil, api.ErrFull)
	}
	for _, n := range []int{api.MaxGroups + 1, api.MaxGroups + 2, 255, 256, 256 + api.MaxGroups, 1<<16 + 1} {
		refused(t, fmt.Sprint(n, " groups"), nil, named(n), api.ErrFull)
	}
}

func TestP11_1OfGroupsThatAreNoNames(t *testing.T) {
	for _, g := range noNames {
		for i := range 4 {
			refused(t, fmt.Sprintf("%.20q at %d", g, i), nil, slices.Insert(named(3), i, g), api.ErrName)
			refused(t, fmt.Sprintf("%.20q at %d, and users", g, i), people(3), slices.Insert(named(3), i, g), api.ErrName)
		}
	}
}

func TestP11_1OfGroupsThatArentThere(t *testing.T) {
	in := func(groups ...string) api.User { return api.User{Name: "n0", Hash: "1", Groups: groups} }
	for _, u := range []api.User{in("dev"), in("a"), in("g"), in("g0000000"), in("g000000", "z"), in("a", "g000000"), in("g000000", "g000001", "g000002")} {
		refused(t, shown([]api.User{u}), []api.User{u}, named(2), api.ErrNone)
		refused(t, shown([]api.User{u})+" behind others", append(called("a", "b"), u), named(2), api.ErrNone)
		refused(t, shown([]api.User{u})+" ahead of others", append([]api.User{u}, called("x", "y")...), named(2), api.ErrNone)
		refused(t, shown([]api.User{u})+" of no groups", []api.User{u}, nil, api.ErrNone)
	}
}

func TestP11_1OfTheSameAddress(t *testing.T) {
	for i := range 4 {
		for j := range i {
			l := people(4)
			for k := range l {
				l[k].Mail = fmt.Sprintf("a%d@b.c", k)
			}
			l[i].Mail = l[j].Mail
			refused(t, fmt.Sprintf("of %d and %d", j, i), l, nil, api.ErrSame)
		}
	}
}

// Users stand ahead of groups, and what is wrong with both behind them.
func TestP11_1OfTheOrderOfErrors(t *testing.T) {
	l, groups := []api.User{}, []string{}
	refuse := func(what string, want api.Errno, u []api.User, g ...string) {
		t.Helper()
		l, groups = append(slices.Clone(u), l...), append(slices.Clone(g), groups...)
		refused(t, what, l, groups, want)
	}
	refuse("an address of two", api.ErrSame, []api.User{{Name: "x", Hash: "1", Mail: "a@b.c"}, {Name: "y", Hash: "1", Mail: "a@b.c"}})
	refuse("no such group, ahead of it", api.ErrNone, []api.User{{Name: "w", Hash: "1", Groups: []string{"none"}}})
	refuse("too many groups", api.ErrFull, nil, "a", "b", "c", "d", "e", "f", "g")
	refuse("groups that don't rise", api.ErrSame, nil, "a")
	groups = append(groups, "?")
	refuse("a group that is no name, behind them", api.ErrName, nil)
	refuse("too many users", api.ErrFull, people(api.MaxUsers))
	refuse("users that don't rise", api.ErrSame, called("z"))
	l = append(l, api.User{Name: "zz", Hash: "1", Mail: "?"})
	refuse("a user that may not be, behind them", api.ErrMail, nil)
}

// User by user: the first user that may not be with those ahead counts, and
// of one user its groups stand ahead of its address.
func TestP11_1OfUserByUser(t *testing.T) {
	first := api.User{Name: "a", Hash: "1", Mail: "a@b.c"}
	out := api.User{Name: "c", Hash: "1", Groups: []string{"none"}}
	same := api.User{Name: "b", Hash: "1", Mail: "a@b.c"}
	refused(t, "the address, then the group", []api.User{first, same, out}, named(6), api.ErrSame)
	out.Name, same.Name = "b", "c"
	refused(t, "the group, then the address", []api.User{first, out, same}, named(6), api.ErrNone)
	both := api.User{Name: "b", Hash: "1", Mail: "a@b.c", Groups: []string{"none"}}
	refused(t, "both of one", []api.User{first, both}, named(6), api.ErrNone)
	both.Groups = []string{"g000000", "none"}
	refused(t, "both of one, its second group", []api.User{first, both}, named(6), api.ErrNone)
}

// However the users and groups came, they are told rising.
func TestP11_1AllAndGroupsRise(t *testing.T) {
	d := newer.New()
	for i, n := range []string{"b", "a.b", "aa", "a-b", "a", "a0"} {
		is(t, n, d.Create(n, fmt.Sprint(i)), api.OK)
		is(t, n, d.MakeGroup(n), api.OK)
	}
	for _, g := range []string{"aa", "a", "b", "a0", "a.b", "a-b"} {
		is(t, g, d.Join(g, "a0"), api.OK)
	}
	groups := []string{"a", "a-b", "a.b", "a0", "aa", "b"}
	want := []api.User{{Name: "a", Hash: "4"}, {Name: "a-b", Hash: "3"}, {Name: "a.b", Hash: "1"}, {Name: "a0", Hash: "5", Groups: groups}, {Name: "aa", Hash: "2"}, {Name: "b", Hash: "0"}}
	for range 20 {
		holds(t, "six", d, want, groups)
	}
	holds(t, "of All and Groups", some(t, d.All(), d.Groups()), want, groups)
}

func TestP11_1Copy(t *testing.T) {
	was, groups := three()
	d := some(t, was, groups)
	c := d.Copy()
	holds(t, "a copy", c, was, groups)
	change := func(d *newer.Dir) {
		is(t, "Delete", d.Delete("ann"), api.OK)
		is(t, "SetHash", d.SetHash("cid", "ff"), api.OK)
		is(t, "SetMail", d.SetMail("bob", "a@b.c"), api.OK)
		is(t, "Disable", d.Disable("bob", false), api.OK)
		is(t, "Rename", d.Rename("cid", "zoe"), api.OK)
		is(t, "Create", d.Create("abe", "4"), api.OK)
		is(t, "DropGroup", d.DropGroup("ops"), api.OK)
		is(t, "MakeGroup", d.MakeGroup("all"), api.OK)
		is(t, "Join", d.Join("top", "abe"), api.OK)
		is(t, "Leave", d.Leave("dev", "bob"), api.OK)
	}
	changed := []api.User{{Name: "abe", Hash: "4", Groups: []string{"top"}}, {Name: "bob", Hash: "2", Mail: "a@b.c"}, {Name: "zoe", Hash: "ff", Mail: "c@b.c"}}
	change(d)
	holds(t, "the copy of one that changed", c, was, groups)
	holds(t, "one that changed", d, changed, []string{"all", "dev", "top"})
	again := c.Copy()
	change(c)
	holds(t, "one whose copy changed", again, was, groups)
	holds(t, "the copy that changed", c, changed, []string{"all", "dev", "top"})
}

// A copy of an empty one is apart, too, on both sides.
func TestP11_1CopyOfNothing(t *testing.T) {
	d := newer.New()
	c := d.Copy()
	c.Create("a", "1")
	c.MakeGroup("dev")
	holds(t, "the empty one", d, nil, nil)
	e := newer.New()
	f := e.Copy()
	e.Create("b", "1")
	e.MakeGroup("dev")
	holds(t, "a copy of an empty one", f, nil, nil)
}
