package newer_test

import (
	"slices"
	"strings"
	"testing"

	"interrex/api"
	"interrex/newer"
	"interrex/user"
)

// dice is a row of numbers that look thrown, the same each time.
type dice uint64

func (d *dice) next(n int) int {
	*d = *d*6364136223846793005 + 1442695040888963407
	return int(uint64(*d) >> 33 % uint64(n))
}

// one tells one of some texts.
func (d *dice) one(of []string) string { return of[d.next(len(of))] }

// rows is a directory told once more in another way: whole users in a row that
// rises, groups in another one. A user is never changed, but replaced.
type rows struct {
	users  []api.User
	groups []string
}

func (r *rows) clone() *rows { return &rows{slices.Clone(r.users), slices.Clone(r.groups)} }

// find tells where a name stands, or would.
func (r *rows) find(n string) (int, bool) {
	return slices.BinarySearchFunc(r.users, n, func(u api.User, n string) int { return strings.Compare(u.Name, n) })
}

// turn replaces a user by what is made of it, if that tells no error.
func (r *rows) turn(n string, deed func(u *api.User) api.Errno) api.Errno {
	i, found := r.find(n)
	if !found {
		return api.ErrNone
	}
	u := user.Clone(r.users[i])
	e := deed(&u)
	if e == api.OK {
		r.users[i] = u
	}
	return e
}

// The deeds, of what names, sums and addresses may be.
func (r *rows) create(n, hash string) api.Errno {
	i, found := r.find(n)
	if found {
		return api.ErrSame
	}
	if len(r.users) == 12 {
		return api.ErrFull
	}
	r.users = slices.Insert(r.users, i, api.User{Name: n, Hash: hash})
	return api.OK
}

func (r *rows) remove(n string) api.Errno {
	i, found := r.find(n)
	if !found {
		return api.ErrNone
	}
	r.users = slices.Delete(r.users, i, i+1)
	return api.OK
}

func (r *rows) setHash(n, hash string) api.Errno {
	return r.turn(n, func(u *api.User) api.Errno {
		if u.Disabled {
			return api.ErrState
		}
		u.Hash = hash
		return api.OK
	})
}

func (r *rows) setMail(n, m string) api.Errno {
	m = strings.ToLower(m)
	return r.turn(n, func(u *api.User) api.Errno {
		if slices.ContainsFunc(r.users, func(v api.User) bool { return m != "" && v.Name != n && v.Mail == m }) {
			return api.ErrSame
		}
		u.Mail = m
		return api.OK
	})
}

func (r *rows) disable(n string, is bool) api.Errno {
	return r.turn(n, func(u *api.User) api.Errno {
		if u.Disabled == is {
			return api.ErrState
		}
		u.Disabled = is
		return api.OK
	})
}

func (r *rows) rename(old, next string) api.Errno {
	i, found := r.find(old)
	if !found {
		return api.ErrNone
	}
	if _, taken := r.find(next); taken {
		return api.ErrSame
	}
	u := r.users[i]
	u.Name = next
	r.users = slices.Delete(r.users, i, i+1)
	i, _ = r.find(next)
	r.users = slices.Insert(r.users, i, u)
	return api.OK
}

func (r *rows) makeGroup(g string) api.Errno {
	i, found := slices.BinarySearch(r.groups, g)
	if found {
		return api.ErrSame
	}
	if len(r.groups) == 6 {
		return api.ErrFull
	}
	r.groups = slices.Insert(r.groups, i, g)
	return api.OK
}

func (r *rows) dropGroup(g string) api.Errno {
	i, found := slices.BinarySearch(r.groups, g)
	if !found {
		return api.ErrNone
	}
	r.groups = slices.Delete(r.groups, i, i+1)
	for _, u := range r.users {
		r.leave(g, u.Name)
	}
	return api.OK
}

func (r *rows) join(g, n string) api.Errno {
	return r.turn(n, func(u *api.User) api.Errno {
		if !slices.Contains(r.groups, g) {
			return api.ErrNone
		}
		i, found := slices.BinarySearch(u.Groups, g)
		if found {
			return api.ErrSame
		}
		u.Groups = slices.Insert(u.Groups, i, g)
		return api.OK
	})
}

func (r *rows) leave(g, n string) api.Errno {
	return r.turn(n, func(u *api.User) api.Errno {
		i, found := slices.BinarySearch(u.Groups, g)
		if found {
			u.Groups = slices.Delete(u.Groups, i, i+1)
			return api.OK
		}
		if !slices.Contains(r.groups, g) {
			return api.ErrNone
		}
		return api.ErrState
	})
}

// The parts that the deeds below are done with: so few that they meet, but
// more users and groups than may be.
var (
	deedNames  = []string{"a", "ab", "a-b", "a.b", "a0", "b", "b9", "c", "d", "e", "f", "g", "h", "i", "abcdefghijkl"}
	deedSums   = []string{"0", "1", "ff", "0123456789ab"}
	deedMails  = []string{"a@b.c", "A@B.C", "b@b.c", "c@b.c", "d@B.c", "e@b.c", "f@0.1", ""}
	deedGroups = []string{"a", "b", "dev", "ops", "top", "x", "y"}
)

// parts is what a deed is done with, and what should be told ahead of all else
// of those that may not be.
type parts struct {
	name, next, sum, mail, group                string
	badName, badNext, badSum, badMail, badGroup api.Errno
}

// thrown is parts, of which a few may not be.
func (d *dice) thrown() parts {
	part := func(good, bad []string, e api.Errno) (string, api.Errno) {
		if d.next(16) == 0 {
			return d.one(bad), e
		}
		return d.one(good), api.OK
	}
	var p parts
	p.name, p.badName = part(deedNames, noNames, api.ErrName)
	p.next, p.badNext = part(deedNames, noNames, api.ErrName)
	p.sum, p.badSum = part(deedSums, noSums, api.ErrForm)
	p.mail, p.badMail = part(deedMails, noMails, api.ErrMail)
	p.group, p.badGroup = part(deedGroups, noNames, api.ErrName)
	return p
}

// expect is what a deed should tell, which is done just if its parts may be.
func expect(deed func() api.Errno, bad ...api.Errno) api.Errno {
	for _, e := range bad {
		if e != api.OK {
			return e
		}
	}
	return deed()
}

// deed does one deed to a directory and to its rows, and tells what each
// answered.
func deed(d *dice, dir *newer.Dir, r *rows) (e, want api.Errno) {
	p := d.thrown()
	switch d.next(16) {
	case 0, 1, 2:
		return dir.Create(p.name, p.sum), expect(func() api.Errno { return r.create(p.name, p.sum) }, p.badName, p.badSum)
	case 3:
		return dir.Delete(p.name), expect(func() api.Errno { return r.remove(p.name) }, p.badName)
	case 4, 5:
		return dir.SetHash(p.name, p.sum), expect(func() api.Errno { return r.setHash(p.name, p.sum) }, p.badName, p.badSum)
	case 6, 7, 8:
		return dir.SetMail(p.name, p.mail), expect(func() api.Errno { return r.setMail(p.name, p.mail) }, p.badName, p.badMail)
	case 9:
		is := d.next(2) == 0
		return dir.Disable(p.name, is), expect(func() api.Errno { return r.disable(p.name, is) }, p.badName)
	case 10:
		return dir.Rename(p.name, p.next), expect(func() api.Errno { return r.rename(p.name, p.next) }, p.badName, p.badNext)
	case 11:
		return dir.MakeGroup(p.group), expect(func() api.Errno { return r.makeGroup(p.group) }, p.badGroup)
	case 12:
		if d.next(4) == 0 { // so that groups have members for a while
			return dir.DropGroup(p.group), expect(func() api.Errno { return r.dropGroup(p.group) }, p.badGroup)
		}
	case 13:
		return dir.Leave(p.group, p.name), expect(func() api.Errno { return r.leave(p.group, p.name) }, p.badGroup, p.badName)
	}
	return dir.Join(p.group, p.name), expect(func() api.Errno { return r.join(p.group, p.name) }, p.badGroup, p.badName)
}

// Many deeds, good and bad ones, each held against the rows: what is refused
// changes nothing, copies stay as they were, and all that is told makes the
// same directory again.
func TestP11_4ManyDeeds(t *testing.T) {
	var d dice
	seen := map[api.Errno]int{}
	dir, r := newer.New(), &rows{}
	for i := range 20000 {
		was, before := dir.Copy(), r.clone()
		e, want := deed(&d, dir, r)
		seen[e]++
		is(t, "a deed", e, want)
		holds(t, "behind a deed", dir, r.users, r.groups)
		holds(t, "a copy ahead of a deed", was, before.users, before.groups)
		if e != api.OK {
			holds(t, "what was refused", dir, before.users, before.groups)
		}
		holdsNobodys(t, dir, r)
		if i%50 == 0 {
			dir = some(t, dir.All(), dir.Groups())
			holds(t, "of all", dir, r.users, r.groups)
		}
		if t.Failed() {
			return
		}
	}
	for _, e := range []api.Errno{api.OK, api.ErrName, api.ErrForm, api.ErrMail, api.ErrSame, api.ErrFull, api.ErrNone, api.ErrState} {
		if seen[e] < 50 {
			t.Error("too few to tell anything of error", e, seen[e])
		}
	}
}

// holdsNobodys tells whether nobody has what nobody should have.
func holdsNobodys(t *testing.T, dir *newer.Dir, r *rows) {
	t.Helper()
	for _, m := range deedMails {
		has := slices.ContainsFunc(r.users, func(u api.User) bool { return u.Mail == strings.ToLower(m) })
		if n, e := dir.Find(m); m != "" && !has && (n != "" || e != api.ErrNone) {
			t.Errorf("Find(%q): %q, %d", m, n, e)
		}
	}
	for _, n := range deedNames {
		_, has := r.find(n)
		if u, e := dir.Lookup(n); !has && (!user.Same(u, api.User{}) || e != api.ErrNone) {
			t.Errorf("Lookup(%q): %s, %d", n, shown([]api.User{u}), e)
		}
	}
	for _, g := range deedGroups {
		if l, e := dir.Members(g); !slices.Contains(r.groups, g) && (len(l) != 0 || e != api.ErrNone) {
			t.Errorf("Members(%q): %q, %d", g, l, e)
		}
	}
}
