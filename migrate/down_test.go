package migrate_test

import (
	"fmt"
	"slices"
	"testing"

	"interrex/api"
	"interrex/migrate"
	"interrex/newer"
)

// isDown tells whether a directory was migrated, of one with these users.
func isDown(t *testing.T, what string, d *newer.Dir, l []api.User) {
	t.Helper()
	x, e := migrate.Down(d)
	if e != api.OK {
		t.Errorf("%s: error %d", what, e)
	}
	oldHolds(t, what, x, l)
}

// isNone tells whether there is none of which a directory is the migrated one.
func isNone(t *testing.T, what string, d *newer.Dir) {
	t.Helper()
	if x, e := migrate.Down(d); x != nil || e != api.ErrState {
		t.Errorf("%s: there is %v, error %d", what, x != nil, e)
	}
}

func TestP13_1Down(t *testing.T) {
	each(func(l []api.User) {
		isDown(t, "what was migrated", migrate.Up(old(t, l)), l)
		isDown(t, "what was made", made(t, l, nil), l)
		d, e := newer.Of(l, nil)
		must(t, "Of", e)
		isDown(t, "what was made at once", d, l)
		isDown(t, "a copy", d.Copy(), l)
	})
}

func TestP13_1DownOfNoDirectory(t *testing.T) {
	isNone(t, "nil", nil)
	isDown(t, "an empty directory", newer.New(), nil)
}

// more are the ways to have more than a name and a sum, by what they are.
var more = map[string]func(u *api.User){
	"an address":                func(u *api.User) { u.Mail = "x@y.z" },
	"disabled":                  func(u *api.User) { u.Disabled = true },
	"an address, and disabled":  func(u *api.User) { u.Mail, u.Disabled = "x@y.z", true },
	"in a group":                func(u *api.User) { u.Groups = []string{"g"} },
	"all that it may have":      func(u *api.User) { u.Mail, u.Disabled, u.Groups = "x@y.z", true, []string{"g"} },
	"disabled, and in a group":  func(u *api.User) { u.Disabled, u.Groups = true, []string{"g"} },
	"an address, and in groups": func(u *api.User) { u.Mail, u.Groups = "x@y.z", []string{"g", "h"} },
}

// One user that has more is enough, wherever it stands.
func TestP13_1DownOfAUserWithMore(t *testing.T) {
	each(func(l []api.User) {
		for what, give := range more {
			for i := range l {
				some := slices.Clone(l)
				give(&some[i])
				isNone(t, fmt.Sprint(what, " of ", i), made(t, some, some[i].Groups))
			}
		}
	})
}

// A group is enough, also one without members.
func TestP13_1DownOfAGroup(t *testing.T) {
	each(func(l []api.User) {
		for n := range api.MaxGroups {
			var groups []string
			for i := range n + 1 {
				groups = append(groups, fmt.Sprint("g", i))
			}
			isNone(t, fmt.Sprint(n+1, " groups"), made(t, l, groups))
		}
	})
}

// What a directory had once doesn't count, what it has now does.
func TestP13_1DownFollows(t *testing.T) {
	d := newer.New()
	may := func(what string, e api.Errno, l ...api.User) {
		t.Helper()
		must(t, what, e)
		isDown(t, what, d, l)
	}
	mayNot := func(what string, e api.Errno) {
		t.Helper()
		must(t, what, e)
		isNone(t, what, d)
	}
	ann, bob, carl := api.User{Name: "ann", Hash: "1"}, api.User{Name: "bob", Hash: "2"}, api.User{Name: "carl", Hash: "2"}
	may("a user", d.Create("bob", "2"), bob)
	may("two users", d.Create("ann", "1"), ann, bob)
	mayNot("an address", d.SetMail("bob", "X@y.z"))
	may("none any more", d.SetMail("bob", ""), ann, bob)
	mayNot("disabled", d.Disable("ann", true))
	mayNot("an address, too", d.SetMail("ann", "x@y.z"))
	mayNot("not disabled any more", d.Disable("ann", false))
	may("no address any more", d.SetMail("ann", ""), ann, bob)
	mayNot("a group", d.MakeGroup("dev"))
	mayNot("a member", d.Join("dev", "bob"))
	mayNot("no member any more", d.Leave("dev", "bob"))
	may("no group any more", d.DropGroup("dev"), ann, bob)
	mayNot("another group", d.MakeGroup("ops"))
	mayNot("a member of it", d.Join("ops", "ann"))
	may("no group any more, with a member", d.DropGroup("ops"), ann, bob)
	may("another name", d.Rename("bob", "carl"), ann, carl)
	mayNot("another one is disabled", d.Disable("carl", true))
	may("it is no more", d.Delete("carl"), ann)
	may("another sum", d.SetHash("ann", "ff"), api.User{Name: "ann", Hash: "ff"})
	may("nobody", d.Delete("ann"))
}

// What came down is a directory like any other one of the first schema.
func TestP13_1DownLivesOn(t *testing.T) {
	each(func(l []api.User) {
		d, e := migrate.Down(made(t, l, nil))
		must(t, "Down", e)
		full := api.OK
		if len(l) == api.MaxUsers {
			full = api.ErrFull
		}
		if e := d.Create("zz", "1"); e != full {
			t.Errorf("one more than %d: error %d", len(l), e)
		}
		for _, u := range l {
			if e := d.Create(u.Name, "1"); e != api.ErrSame {
				t.Errorf("once more: error %d", e)
			}
			must(t, "SetHash", d.SetHash(u.Name, "ee"))
			if sum, e := d.Lookup(u.Name); sum != "ee" || e != api.OK {
				t.Errorf("another sum is %q, error %d", sum, e)
			}
			must(t, "Delete", d.Delete(u.Name))
		}
	})
}

// There and back, as often as one likes.
func TestP13_1UpAndDown(t *testing.T) {
	each(func(l []api.User) {
		x := old(t, l)
		for range 3 {
			var e api.Errno
			x, e = migrate.Down(migrate.Up(x))
			must(t, "Down", e)
			oldHolds(t, "there and back", x, l)
		}
	})
}
