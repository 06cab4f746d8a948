package elder_test

import (
	"fmt"
	"slices"
	"strings"
	"testing"

	"interrex/api"
	"interrex/elder"
	"interrex/user"
)

// people is so many users of the first schema whose names rise.
func people(n int) []api.User {
	l := make([]api.User, n)
	for i := range l {
		l[i] = api.User{Name: fmt.Sprintf("n%06d", i), Hash: fmt.Sprintf("%x", i)}
	}
	return l
}

// some is the directory of these names, with sums 1, 2 and so on.
func some(t *testing.T, names ...string) *elder.Dir {
	t.Helper()
	d := elder.New()
	for i, n := range names {
		if e := d.Create(n, fmt.Sprintf("%x", i+1)); e != api.OK {
			t.Fatalf("Create(%q): %d", n, e)
		}
	}
	return d
}

// shown is all that a directory has, as a text.
func shown(l []api.User) string {
	var s []string
	for _, u := range l {
		s = append(s, fmt.Sprintf("%q:%q:%q:%v:%q", u.Name, u.Hash, u.Mail, u.Disabled, u.Groups))
	}
	return strings.Join(s, " ")
}

// holds holds all that a directory tells against the users that it should have.
func holds(t *testing.T, what string, d *elder.Dir, want []api.User) {
	t.Helper()
	if all := d.All(); !slices.EqualFunc(all, want, user.Same) {
		t.Errorf("%s: All is %s, not %s", what, shown(all), shown(want))
	}
	if d.Len() != len(want) {
		t.Errorf("%s: Len is %d, not %d", what, d.Len(), len(want))
	}
	var names []string
	for _, u := range want {
		names = append(names, u.Name)
		if h, e := d.Lookup(u.Name); h != u.Hash || e != api.OK {
			t.Errorf("%s: Lookup(%q) is %q, %d, not %q", what, u.Name, h, e, u.Hash)
		}
	}
	if l, e := d.List(""); !slices.Equal(l, names) || e != api.OK {
		t.Errorf("%s: List is %q, %d, not %q", what, l, e, names)
	}
}

// noNames and noSums are what no name and no sum is.
var (
	noNames = []string{"", "A", "Ann", "9a", "-a", ".a", "a-", "a.", "a b", "a_b", "a@b.c", "ä", "a\x00", "a\xff", "abcdefghijklm", strings.Repeat("a", 1<<16)}
	noSums  = []string{"", "g", "A", "F0", "-1", " 1", "1 ", "0x1", "\x00", "1\xff", "0123456789abc", strings.Repeat("1", 1<<16)}
)

func TestP7_1New(t *testing.T) {
	d := elder.New()
	holds(t, "a new one", d, nil)
	if _, e := d.Lookup("a"); e != api.ErrNone {
		t.Error("Lookup", e)
	}
	if e := d.Delete("a"); e != api.ErrNone {
		t.Error("Delete", e)
	}
	if e := d.SetHash("a", "1"); e != api.ErrNone {
		t.Error("SetHash", e)
	}
	holds(t, "a new one, asked", d, nil)
	holds(t, "its copy", d.Copy(), nil)
}

// Each new one has its own users.
func TestP7_1NewIsApart(t *testing.T) {
	a, b := elder.New(), elder.New()
	a.Create("a", "1")
	holds(t, "the other one", b, nil)
	b.Create("b", "2")
	holds(t, "the first one", a, []api.User{{Name: "a", Hash: "1"}})
	holds(t, "one more", elder.New(), nil)
}

// Of so many users as may be; nil and empty lists are the same.
func TestP7_1Of(t *testing.T) {
	for _, l := range [][]api.User{nil, {}, make([]api.User, 0, 3)} {
		d, e := elder.Of(l)
		if d == nil || e != api.OK {
			t.Fatal("of no users", e)
		}
		holds(t, "of no users", d, nil)
		if e := d.Create("a", "1"); e != api.OK {
			t.Error("Create of one of no users", e)
		}
	}
	for n := range api.MaxUsers + 1 {
		d, e := elder.Of(people(n))
		if d == nil || e != api.OK {
			t.Fatal(n, e)
		}
		holds(t, fmt.Sprint(n), d, people(n))
	}
	l := []api.User{{Name: "a", Hash: "1", Groups: []string{}}, {Name: "a-b", Hash: "1"}, {Name: "a.b", Hash: "0123456789ab"}, {Name: "a0", Hash: "1"}, {Name: "aa", Hash: "f"}, {Name: "abcdefghijkl", Hash: "0"}, {Name: "b", Hash: "1"}}
	d, e := elder.Of(l)
	if d == nil || e != api.OK {
		t.Fatal(e)
	}
	holds(t, "of many kinds of names", d, l)
}

// refused tells whether no directory is of these users, by that error.
func refused(t *testing.T, what string, l []api.User, want api.Errno) {
	t.Helper()
	if d, e := elder.Of(l); d != nil || e != want {
		t.Errorf("%s: %v, error %d, not %d", what, d, e, want)
	}
}

// Check's errors, of the first, one in the midst and the last user.
func TestP7_1OfWhatMayNotBe(t *testing.T) {
	bad := map[api.Errno][]api.User{
		api.ErrForm:  {{Name: "n000001a"}, {Name: "n000001a", Hash: "g", Mail: "a@b.c"}},
		api.ErrState: {{Name: "n000001a", Hash: "1", Mail: "a@b.c"}, {Name: "n000001a", Hash: "1", Mail: "?"}, {Name: "n000001a", Hash: "1", Disabled: true}, {Name: "n000001a", Hash: "1", Groups: []string{"x"}}},
		api.ErrName:  {{}, {Hash: "1"}, {Name: "N", Hash: "g", Disabled: true}},
	}
	for _, n := range noNames {
		bad[api.ErrName] = append(bad[api.ErrName], api.User{Name: n, Hash: "1"})
	}
	for _, h := range noSums {
		bad[api.ErrForm] = append(bad[api.ErrForm], api.User{Name: "n000001a", Hash: h})
	}
	for want, users := range bad {
		for _, u := range users {
			for i := range 4 {
				refused(t, fmt.Sprintf("%.50s at %d", shown([]api.User{u}), i), slices.Insert(people(3), i, u), want)
			}
		}
	}
}

// Of several users that may not be the first one counts, whatever its error is.
func TestP7_1OfOneByOne(t *testing.T) {
	bad := map[api.Errno]api.User{
		api.ErrName:  {Name: "A", Hash: "1"},
		api.ErrForm:  {Name: "a", Hash: "g"},
		api.ErrState: {Name: "a", Hash: "1", Disabled: true},
	}
	for want, u := range bad {
		for _, v := range bad {
			refused(t, "two that may not be", []api.User{u, v}, want)
			refused(t, "two that may not be, others ahead", append(people(2), u, v), want)
		}
	}
}

func TestP7_1OfNamesThatDontRise(t *testing.T) {
	u := func(names ...string) []api.User {
		var l []api.User
		for _, n := range names {
			l = append(l, api.User{Name: n, Hash: "1"})
		}
		return l
	}
	for _, l := range [][]api.User{
		u("a", "a"), u("b", "a"), u("a", "b", "b"), u("a", "b", "a"), u("a", "a", "b"), u("b", "a", "c"), u("a", "c", "b", "d"),
		u("ab", "a"), u("a0", "a-b"), u("a0", "a.b"), u("aa", "a0"), u("a.b", "a-b"), u("a", "b", "c", "d", "e", "f", "g", "h", "i", "j", "l", "k"),
	} {
		refused(t, shown(l), l, api.ErrSame)
	}
	refused(t, "the same name with another sum", []api.User{{Name: "a", Hash: "1"}, {Name: "a", Hash: "2"}}, api.ErrSame)
}

func TestP7_1OfTooMany(t *testing.T) {
	for _, n := range []int{api.MaxUsers + 1, api.MaxUsers + 2, 255, 256, 256 + api.MaxUsers, 1<<16 + 1} {
		refused(t, fmt.Sprint(n), people(n), api.ErrFull)
	}
}

// Check's error of any user stands ahead of ErrSame, that ahead of ErrFull.
func TestP7_1OfTheOrderOfErrors(t *testing.T) {
	same := append([]api.User{{Name: "z", Hash: "1"}}, people(3)...)
	refused(t, "a user that may not be, behind names that don't rise", append(same, api.User{Name: "A", Hash: "1"}), api.ErrName)
	refused(t, "a sum that may not be, behind names that don't rise", append(same, api.User{Name: "a"}), api.ErrForm)
	refused(t, "more than a sum, behind names that don't rise", append(same, api.User{Name: "a", Hash: "1", Disabled: true}), api.ErrState)
	many := people(api.MaxUsers + 1)
	refused(t, "a user that may not be, behind too many", append(many, api.User{Name: "z"}), api.ErrForm)
	refused(t, "names that don't rise, behind too many", append(many, api.User{Name: "a", Hash: "1"}), api.ErrSame)
	refused(t, "all of it", append(many, api.User{Name: "a", Hash: "1"}, api.User{Name: "z", Hash: "1", Mail: "a@b.c"}), api.ErrState)
}

// However the users came, they are told rising.
func TestP7_1AllRises(t *testing.T) {
	d := some(t, "b", "a.b", "aa", "a-b", "a", "a0", "z9", "c", "abcdefghijkl")
	want := []api.User{{Name: "a", Hash: "5"}, {Name: "a-b", Hash: "4"}, {Name: "a.b", Hash: "2"}, {Name: "a0", Hash: "6"}, {Name: "aa", Hash: "3"}, {Name: "abcdefghijkl", Hash: "9"}, {Name: "b", Hash: "1"}, {Name: "c", Hash: "8"}, {Name: "z9", Hash: "7"}}
	for range 20 {
		holds(t, "nine", d, want)
	}
	again, e := elder.Of(d.All())
	if again == nil || e != api.OK {
		t.Fatal(e)
	}
	holds(t, "of All", again, want)
}

func TestP7_1Copy(t *testing.T) {
	d := some(t, "ann", "bob", "cid")
	c := d.Copy()
	was := d.All()
	holds(t, "a copy", c, was)
	d.Delete("ann")
	d.SetHash("bob", "ff")
	d.Create("dan", "4")
	holds(t, "the copy of one that changed", c, was)
	is := d.All()
	c.Delete("cid")
	c.SetHash("bob", "0")
	c.Create("eve", "5")
	holds(t, "one whose copy changed", d, is)
	holds(t, "the copy", c, []api.User{{Name: "ann", Hash: "1"}, {Name: "bob", Hash: "0"}, {Name: "eve", Hash: "5"}})
}

// A copy of an empty one is apart, too, on both sides.
func TestP7_1CopyOfNoUsers(t *testing.T) {
	d := elder.New()
	c := d.Copy()
	c.Create("a", "1")
	holds(t, "the empty one", d, nil)
	e := some(t, "a")
	e.Delete("a")
	f := e.Copy()
	e.Create("b", "1")
	holds(t, "a copy of one that was emptied", f, nil)
}
