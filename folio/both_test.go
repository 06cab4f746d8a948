package folio_test

import (
	"bytes"
	"testing"

	"interrex/api"
	"interrex/folio"
	"interrex/newer"
	"interrex/user"
)

// subset is those of some texts whose bits stand in a number.
func subset(l []string, bits int) []string {
	var some []string
	for i, s := range l {
		if bits>>i&1 == 1 {
			some = append(some, s)
		}
	}
	return some
}

// someUsers is two users, each of them there or not, with one of two sums, with
// an address or without, disabled or not, and in some of these groups: which
// ones is told by numbers below 33.
func someUsers(groups []string, a, b int) []api.User {
	var l []api.User
	for i, n := range []int{a, b} {
		if n == 0 {
			continue
		}
		n--
		u := api.User{Name: []string{"a", "b"}[i], Hash: []string{"1", "11"}[n&1], Disabled: n>>1&1 == 1}
		if n>>2&1 == 1 {
			u.Mail = []string{"a@b.c", "aa@b.c"}[i]
		}
		u.Groups = subset(groups, n>>3)
		l = append(l, u)
	}
	return l
}

// eachSome tells all of them, of no, one or two groups; those in groups that
// aren't there are told as often as that.
func eachSome(tell func(l []api.User, groups []string)) {
	for bits := range 4 {
		groups := subset([]string{"g", "h"}, bits)
		count := 1 + 8<<len(groups)
		for a := range count {
			for b := range count {
				tell(someUsers(groups, a, b), groups)
			}
		}
	}
}

// The same bytes just if the same users and groups.
func TestP12_2SameBytesJustIfSameContent(t *testing.T) {
	type content struct {
		l      []api.User
		groups []string
	}
	seen := map[string]content{}
	eachSome(func(l []api.User, groups []string) {
		b := string(folio.Bytes(made(t, l, groups)))
		if was, is := seen[b]; is {
			t.Errorf("%q is %s, %q, and %s, %q", b, shown(l), groups, shown(was.l), was.groups)
		}
		seen[b] = content{l, groups}
	})
	if len(seen) != 81+2*17*17+33*33 {
		t.Error(len(seen))
	}
}

// However the users and groups came.
func TestP12_2SameBytesOfSameContent(t *testing.T) {
	eachSome(func(l []api.User, groups []string) {
		want := written(l, groups)
		a := made(t, l, groups)
		b, e := newer.Of(l, groups)
		if b == nil || e != api.OK {
			t.Fatal(e)
		}
		c := a.Copy()
		must(t, "MakeGroup", c.MakeGroup("z"))
		must(t, "Create", c.Create("z", "1"))
		must(t, "SetMail", c.SetMail("z", "z@b.c"))
		must(t, "Join", c.Join("z", "z"))
		for _, u := range l {
			must(t, "Rename", c.Rename(u.Name, "y"))
			must(t, "Join", c.Join("z", "y"))
			must(t, "Rename", c.Rename("y", u.Name))
		}
		must(t, "DropGroup", c.DropGroup("z"))
		must(t, "Delete", c.Delete("z"))
		for _, d := range []*newer.Dir{a, b, c, a.Copy()} {
			tells(t, shown(l), d, want)
		}
	})
}

// What is told is read as it was.
func TestP12_2WhatIsToldIsRead(t *testing.T) {
	both := func(l []api.User, groups []string) {
		d := made(t, l, groups)
		b := folio.Bytes(d)
		isRead(t, shown(l), b, l, groups)
		again, _ := folio.Read(b)
		tells(t, shown(l)+", read", again, b)
		holds(t, shown(l)+", told", d, l, groups)
	}
	eachSome(both)
	each(both)
}

// What is read stays, whatever happens to the bytes; they and their spare room
// stay, too.
func TestP12_2ReadKeepsNothing(t *testing.T) {
	keeps := func(l []api.User, groups []string) {
		want := append(written(l, groups), 7, 7, 7, 7)
		room := bytes.Clone(want)
		d, e := folio.Read(room[:len(room)-4])
		if !bytes.Equal(room, want) {
			t.Errorf("%s: the bytes are %q", shown(l), room)
		}
		if e != api.OK {
			return
		}
		for i := range room {
			room[i] = 'z'
		}
		holds(t, "read, then the bytes changed", d, l, groups)
		tells(t, "read, then the bytes changed", d, written(l, groups))
	}
	each(keeps)
	unfit(func(l []api.User, groups []string, _ api.Errno) { keeps(l, groups) })
}

// Directories that were read of the same bytes are apart.
func TestP12_2ReadIsApart(t *testing.T) {
	each(func(l []api.User, groups []string) {
		b := written(l, groups)
		one, _ := folio.Read(b)
		two, _ := folio.Read(b)
		if one == nil || two == nil {
			t.Fatalf("%q isn't read", b)
		}
		for _, u := range l {
			one.SetHash(u.Name, "ff")
			one.SetMail(u.Name, "z@z.z")
			one.Disable(u.Name, !u.Disabled)
		}
		for _, g := range groups {
			for _, u := range l {
				one.Join(g, u.Name)
			}
			one.DropGroup(g)
		}
		one.Create("z", "1")
		one.MakeGroup("z")
		holds(t, "the other one", two, l, groups)
		if !bytes.Equal(b, written(l, groups)) {
			t.Errorf("the bytes are %q", b)
		}
		isRead(t, "read once more", b, l, groups)
	})
}

// Bytes are new memory each time, and the directory stays as it is.
func TestP12_2BytesAreApart(t *testing.T) {
	each(func(l []api.User, groups []string) {
		d := made(t, l, groups)
		b := folio.Bytes(d)
		other := folio.Bytes(d)
		for i := range b {
			b[i] = 'z'
		}
		clear(append(b, 'z'))
		if !bytes.Equal(other, written(l, groups)) {
			t.Errorf("told ahead of the change: %q", other)
		}
		tells(t, "told behind the change", d, written(l, groups))
		holds(t, "the directory", d, l, groups)
		d.Create("zz", "1")
		d.Delete("n00")
		d.MakeGroup("zz")
		d.DropGroup("dev")
		if !bytes.Equal(other, written(l, groups)) {
			t.Errorf("told ahead of a deed: %q", other)
		}
	})
}

// A nil Dir and bytes of which there is no directory leave nothing behind.
func TestP12_2NothingIsKept(t *testing.T) {
	for range 2 {
		folio.Bytes(nil)
		refused(t, "short", said(named(2), 2, persons(called("a"))), api.ErrShort)
		isRead(t, "none", said(nil, 0), nil, nil)
		isRead(t, "one", said([]string{"g"}, 1, persons(called("b"))), called("b"), []string{"g"})
	}
}

// cutter goes through bytes, told once more in another way: the first error
// that it had stays.
type cutter struct {
	b []byte
	e api.Errno
}

// fail is an error, unless there was one.
func (c *cutter) fail(e api.Errno) {
	if c.e == api.OK {
		c.e = e
	}
}

// cut is so many bytes.
func (c *cutter) cut(n int) []byte {
	if len(c.b) < n {
		c.fail(api.ErrShort)
	}
	if c.e != api.OK {
		return make([]byte, n)
	}
	b := c.b[:n]
	c.b = c.b[n:]
	return b
}

// number is one of 2.
func (c *cutter) number() int {
	b := c.cut(2)
	return int(b[0]) + 256*int(b[1])
}

// row is texts, no more and no longer than told.
func (c *cutter) row(most, long int) []string {
	n := c.number()
	if n > most {
		c.fail(api.ErrLong)
	}
	var l []string
	for i := 0; i < n && c.e == api.OK; i++ {
		size := c.number()
		if size > long {
			c.fail(api.ErrLong)
		}
		l = append(l, string(c.cut(size)))
	}
	return l
}

// user is the next one.
func (c *cutter) user() api.User {
	var u api.User
	u.Name = string(c.cut(c.number()))
	u.Hash = string(c.cut(c.number()))
	u.Mail = string(c.cut(c.number()))
	truth := c.cut(1)[0]
	if truth > 1 {
		c.fail(api.ErrForm)
	}
	u.Disabled = truth == 1
	u.Groups = c.row(65535, 65535)
	c.fail(user.Check(2, u))
	return u
}

// read is Read, told once more in another way: users and groups, or the error.
func read(b []byte) ([]api.User, []string, api.Errno) {
	c := &cutter{b: b}
	if schema := c.cut(1)[0]; schema != 2 {
		c.fail(api.ErrVersion)
	}
	groups := c.row(6, 12)
	n := c.number()
	if n > 12 {
		c.fail(api.ErrFull)
	}
	var l []api.User
	for i := 0; i < n && c.e == api.OK; i++ {
		l = append(l, c.user())
	}
	if c.e == api.OK {
		_, e := newer.Of(l, groups)
		c.fail(e)
	}
	if len(c.b) > 0 {
		c.fail(api.ErrLong)
	}
	return l, groups, c.e
}

// isAsTold holds Read against its other telling, and tells the error.
func isAsTold(t *testing.T, what string, b []byte) api.Errno {
	t.Helper()
	l, groups, e := read(b)
	if e != api.OK {
		refused(t, what, b, e)
		return e
	}
	isRead(t, what, b, l, groups)
	again, _ := folio.Read(b)
	tells(t, what, again, b)
	return e
}

// dice is a row of numbers that look thrown, the same each time.
type dice uint64

func (d *dice) next(n int) int {
	*d = *d*6364136223846793005 + 1442695040888963407
	return int(uint64(*d) >> 33 % uint64(n))
}

// content is users and groups that fit together, as they are thrown.
func (d *dice) content() ([]api.User, []string) {
	groups := subset([]string{"g", "h"}, d.next(4))
	count := 1 + 8<<len(groups)
	l := someUsers(groups, d.next(count), d.next(count))
	if n := d.next(13); n > 6 {
		l = people(n)
	}
	return l, groups
}

// spoil changes some bytes, takes some away at an end, or puts one there.
func (d *dice) spoil(b []byte) []byte {
	for range d.next(3) {
		b[d.next(len(b))] = []byte{0, 1, 2, 3, 12, 13, 'a', 'b', 'g', 'h', '1', '@', 'A', 255}[d.next(14)]
	}
	switch d.next(4) {
	case 0:
		b = b[:d.next(len(b)+1)]
	case 1:
		b = append(b, byte(d.next(256)))
	}
	return b
}

// Of any bytes there is just the directory that tells them again, or none.
func TestP12_2AnyBytes(t *testing.T) {
	var dice dice
	met := map[api.Errno]int{}
	for range 60000 {
		met[isAsTold(t, "spoilt", dice.spoil(written(dice.content())))]++
	}
	for _, e := range []api.Errno{
		api.OK, api.ErrShort, api.ErrVersion, api.ErrFull, api.ErrLong, api.ErrName, api.ErrForm, api.ErrMail, api.ErrSame, api.ErrNone,
	} {
		if met[e] < 50 {
			t.Errorf("error %d was met %d times", e, met[e])
		}
	}
}

// All bytes of a few lengths.
func TestP12_2AllShortBytes(t *testing.T) {
	signs := []byte{0, 1, 2, 7, 13, 'a'}
	b := make([]byte, 6)
	for n := range len(b) + 1 {
		count := 1
		for range n {
			count *= len(signs)
		}
		for i := range count {
			for k := range n {
				b[k] = signs[i%len(signs)]
				i /= len(signs)
			}
			isAsTold(t, "short bytes", b[:n])
		}
	}
}
