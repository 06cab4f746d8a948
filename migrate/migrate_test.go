package migrate_test

import (
	"fmt"
	"slices"
	"strings"
	"testing"

	"interrex/api"
	"interrex/elder"
	"interrex/folio"
	"interrex/migrate"
	"interrex/newer"
	"interrex/user"
)

// called is users of these names, with nothing but the sum 1.
func called(names ...string) []api.User {
	var l []api.User
	for _, n := range names {
		l = append(l, api.User{Name: n, Hash: "1"})
	}
	return l
}

// people is so many users whose names rise, with nothing but a sum.
func people(n int) []api.User {
	l := make([]api.User, n)
	for i := range l {
		l[i] = api.User{Name: fmt.Sprintf("n%02d", i), Hash: fmt.Sprintf("%x", i)}
	}
	return l
}

// large is so many of them with as much as may be.
func large(n int) []api.User {
	l := people(n)
	for i := range l {
		l[i].Name += "abcdefghi"
		l[i].Hash += "0123456789ab"[len(l[i].Hash):]
	}
	return l
}

// each goes through users of which there is a directory of the first schema.
func each(tell func(l []api.User)) {
	for n := range api.MaxUsers + 1 {
		tell(people(n))
		tell(large(n))
	}
	tell(called("a", "a-b", "a.b", "a0", "aa", "aab", "ab", "b", "b1", "b10", "b2", "z"))
	tell([]api.User{{Name: "a", Hash: "0"}, {Name: "b", Hash: "0f"}, {Name: "c", Hash: "0123456789ab"}})
}

// must tells of a deed that was refused.
func must(t *testing.T, what string, e api.Errno) {
	t.Helper()
	if e != api.OK {
		t.Fatalf("%s: error %d", what, e)
	}
}

// old is the directory of the first schema with these users, which came by
// deeds, the last one first.
func old(t *testing.T, l []api.User) *elder.Dir {
	t.Helper()
	d := elder.New()
	for _, u := range slices.Backward(l) {
		must(t, "Create "+u.Name, d.Create(u.Name, "f"))
		must(t, "SetHash "+u.Name, d.SetHash(u.Name, u.Hash))
	}
	return d
}

// made is the directory of the second schema with these users and groups,
// which came by deeds, the last one first.
func made(t *testing.T, l []api.User, groups []string) *newer.Dir {
	t.Helper()
	d := newer.New()
	for _, g := range slices.Backward(groups) {
		must(t, "MakeGroup "+g, d.MakeGroup(g))
	}
	for _, u := range slices.Backward(l) {
		must(t, "Create "+u.Name, d.Create(u.Name, u.Hash))
		must(t, "SetMail "+u.Mail, d.SetMail(u.Name, u.Mail))
		for _, g := range slices.Backward(u.Groups) {
			must(t, "Join "+g, d.Join(g, u.Name))
		}
		if u.Disabled {
			must(t, "Disable "+u.Name, d.Disable(u.Name, true))
		}
	}
	return d
}

// shown is users as a text.
func shown(l []api.User) string {
	var s []string
	for _, u := range l {
		s = append(s, fmt.Sprintf("%.20q:%.20q:%.30q:%v:%.90q", u.Name, u.Hash, u.Mail, u.Disabled, u.Groups))
	}
	return strings.Join(s, " ")
}

// holds tells whether a directory of the second schema has these users and
// groups.
func holds(t *testing.T, what string, d *newer.Dir, l []api.User, groups []string) {
	t.Helper()
	if d == nil {
		t.Fatalf("%s: there is no directory", what)
	}
	if all := d.All(); d.Len() != len(l) || !slices.EqualFunc(all, l, user.Same) {
		t.Errorf("%s: %d: %s, not %d: %s", what, d.Len(), shown(all), len(l), shown(l))
	}
	if all := d.Groups(); !slices.Equal(all, groups) {
		t.Errorf("%s: groups %q, not %q", what, all, groups)
	}
}

// oldHolds tells whether a directory of the first schema has these users.
func oldHolds(t *testing.T, what string, d *elder.Dir, l []api.User) {
	t.Helper()
	if d == nil {
		t.Fatalf("%s: there is no directory", what)
	}
	if all := d.All(); d.Len() != len(l) || !slices.EqualFunc(all, l, user.Same) {
		t.Errorf("%s: %d: %s, not %d: %s", what, d.Len(), shown(all), len(l), shown(l))
	}
}

func TestP13_1Up(t *testing.T) {
	each(func(l []api.User) {
		holds(t, "up", migrate.Up(old(t, l)), l, nil)
		d, e := elder.Of(l)
		must(t, "Of", e)
		holds(t, "up of what was made at once", migrate.Up(d), l, nil)
		holds(t, "up of a copy", migrate.Up(d.Copy()), l, nil)
	})
}

func TestP13_1UpOfNoDirectory(t *testing.T) {
	if d := migrate.Up(nil); d != nil {
		t.Errorf("of nil there is %s", shown(d.All()))
	}
	if d := migrate.Up(elder.New()); d == nil {
		t.Error("of an empty directory there is none")
	}
}

// Up tells what the directory is now, whatever was done.
func TestP13_1UpFollows(t *testing.T) {
	d := old(t, people(2))
	migrate.Up(d)
	must(t, "Create", d.Create("m", "2"))
	holds(t, "one more", migrate.Up(d), []api.User{{Name: "m", Hash: "2"}, {Name: "n00", Hash: "0"}, {Name: "n01", Hash: "1"}}, nil)
	must(t, "SetHash", d.SetHash("n00", "ff"))
	must(t, "Delete", d.Delete("n01"))
	holds(t, "another sum, one less", migrate.Up(d), []api.User{{Name: "m", Hash: "2"}, {Name: "n00", Hash: "ff"}}, nil)
	must(t, "Delete", d.Delete("m"))
	must(t, "Delete", d.Delete("n00"))
	holds(t, "none any more", migrate.Up(d), nil, nil)
}

// What is migrated is a directory like any other one of the second schema.
func TestP13_1UpLivesOn(t *testing.T) {
	each(func(l []api.User) {
		d := migrate.Up(old(t, l))
		want := slices.Clone(l)
		for i := range api.MaxGroups {
			must(t, "MakeGroup", d.MakeGroup(fmt.Sprint("g", i)))
		}
		if e := d.MakeGroup("h"); e != api.ErrFull {
			t.Errorf("a group too many: error %d", e)
		}
		for i, u := range l {
			address := fmt.Sprintf("x%d@y.z", i)
			if n, e := d.Find(address); n != "" || e != api.ErrNone {
				t.Errorf("an address that nobody has is %q's, error %d", n, e)
			}
			must(t, "SetMail", d.SetMail(u.Name, address))
			must(t, "Join", d.Join("g3", u.Name))
			must(t, "SetHash", d.SetHash(u.Name, "ee"))
			must(t, "Disable", d.Disable(u.Name, true))
			want[i] = api.User{Name: u.Name, Hash: "ee", Mail: address, Disabled: true, Groups: []string{"g3"}}
		}
		holds(t, "with all that there may be", d, want, []string{"g0", "g1", "g2", "g3", "g4", "g5"})
		e := d.Create("zz", "1")
		if len(l) == api.MaxUsers && e != api.ErrFull || len(l) < api.MaxUsers && e != api.OK {
			t.Errorf("one more than %d: error %d", len(l), e)
		}
	})
}

func TestP13_1BytesOfWhatIsMigrated(t *testing.T) {
	each(func(l []api.User) {
		if b := folio.Bytes(migrate.Up(old(t, l))); string(b) != string(newBytes(l, nil)) {
			t.Errorf("%s: %q", shown(l), b)
		}
	})
}
