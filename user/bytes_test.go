package user_test

import (
	"bytes"
	"slices"
	"strings"
	"testing"

	"interrex/api"
	"interrex/octet"
	"interrex/user"
)

// full is a user of the second schema with as much as may be.
func full() api.User {
	return api.User{
		Name: "abcdefghijkl", Hash: "0123456789ab", Mail: "abcdefghijkl@bcde.gh", Disabled: true,
		Groups: []string{"abcdefghijka", "abcdefghijkb", "abcdefghijkc", "abcdefghijkd", "abcdefghijke", "abcdefghijkf"},
	}
}

// written is a user's bytes, told once more in another way, also of one that
// may not be.
func written(schema int, u api.User) []byte {
	text := func(b []byte, s string) []byte {
		return append(append(b, byte(len(s)), byte(len(s)>>8)), s...)
	}
	b := text(text(nil, u.Name), u.Hash)
	if schema == 1 {
		return b
	}
	b = append(text(b, u.Mail), 0, byte(len(u.Groups)), byte(len(u.Groups)>>8))
	if u.Disabled {
		b[len(b)-3] = 1
	}
	for _, g := range u.Groups {
		b = text(b, g)
	}
	return b
}

// isZero tells whether a user has nothing at all.
func isZero(u api.User) bool {
	return u.Name == "" && u.Hash == "" && u.Mail == "" && !u.Disabled && len(u.Groups) == 0
}

// same is Same, told once more in another way.
func same(a, b api.User) bool {
	groups := slices.Equal(a.Groups, b.Groups)
	a.Groups, b.Groups = nil, nil
	return groups && a.Name+"\x00"+a.Hash+"\x00"+a.Mail == b.Name+"\x00"+b.Hash+"\x00"+b.Mail && a.Disabled == b.Disabled
}

// refuses tells whether these bytes are read as no user, with that error.
func refuses(t *testing.T, what string, b []byte, schema int, want api.Errno) {
	t.Helper()
	r := octet.Of(b)
	if u := user.Get(r, schema); !isZero(u) || r.Err() != want || r.Left() != 0 {
		t.Errorf("%s, schema %d, %v: %s, error %d, not %d, left %d", what, schema, b, shown(u), r.Err(), want, r.Left())
	}
}

func TestP6_1PutExample(t *testing.T) {
	var w octet.Writer
	if !user.Put(&w, 1, api.User{Name: "a", Hash: "1"}) || !bytes.Equal(w.Bytes(), []byte{1, 0, 97, 1, 0, 49}) {
		t.Error(w.Bytes())
	}
}

func TestP6_1PutSecondSchema(t *testing.T) {
	var w octet.Writer
	w.Byte(9)
	if !user.Put(&w, 2, api.User{Name: "a", Hash: "1"}) {
		t.Error("not written")
	}
	if !user.Put(&w, 2, api.User{Name: "b", Hash: "2", Mail: "c@d.e", Disabled: true, Groups: []string{"f", "gh"}}) {
		t.Error("not written")
	}
	want := []byte{
		9,
		1, 0, 'a', 1, 0, '1', 0, 0, 0, 0, 0,
		1, 0, 'b', 1, 0, '2', 5, 0, 'c', '@', 'd', '.', 'e', 1, 2, 0, 1, 0, 'f', 2, 0, 'g', 'h',
	}
	if !bytes.Equal(w.Bytes(), want) {
		t.Error(w.Bytes())
	}
}

// What may be is written, behind what was, and read again; of what may not be
// nothing is written.
func TestP6_3WhatMayBeIsRead(t *testing.T) {
	eachUser(func(u api.User, one, two api.Errno) {
		for schema, e := range map[int]api.Errno{1: one, 2: two} {
			var w octet.Writer
			is := user.Put(w.Byte(7), schema, u)
			if is != (e == api.OK) {
				t.Errorf("schema %d, %s: %v", schema, shown(u), is)
			}
			want := []byte{7}
			if e == api.OK {
				want = append(want, written(schema, u)...)
			}
			if !bytes.Equal(w.Bytes(), want) {
				t.Errorf("schema %d, %s: %v, not %v", schema, shown(u), w.Bytes(), want)
			}
			if e != api.OK {
				continue
			}
			r := octet.Of(w.Byte(8).Bytes())
			r.Byte()
			if v := user.Get(r, schema); !same(u, v) || r.Err() != api.OK || r.Left() != 1 || r.Byte() != 8 {
				t.Errorf("schema %d, %s is read as %s, error %d", schema, shown(u), shown(v), r.Err())
			}
		}
	})
}

func TestP6_1PutOfNoSchema(t *testing.T) {
	for _, schema := range strange {
		var w octet.Writer
		w.Byte(7)
		if user.Put(&w, schema, api.User{Name: "a", Hash: "1"}) || user.Put(&w, schema, full()) || len(w.Bytes()) != 1 {
			t.Errorf("schema %d: %v", schema, w.Bytes())
		}
	}
}

func TestP6_1GetOfNoSchema(t *testing.T) {
	for _, schema := range strange {
		refuses(t, "a user", written(1, api.User{Name: "a", Hash: "1"}), schema, api.ErrVersion)
		refuses(t, "a full user", written(2, full()), schema, api.ErrVersion)
		refuses(t, "no bytes", nil, schema, api.ErrVersion)
		refuses(t, "a long name", []byte{255, 255}, schema, api.ErrVersion)
	}
}

// Each beginning of a user's bytes is short, and tells nothing of it.
func TestP6_1GetShort(t *testing.T) {
	for _, u := range []api.User{full(), {Name: "a", Hash: "1"}, {Name: "a", Hash: "1", Groups: []string{"x"}}} {
		for schema := 1; schema <= 2; schema++ {
			b := written(schema, u)
			for n := range len(b) {
				refuses(t, "short", b[:n], schema, api.ErrShort)
			}
		}
	}
}

// A user that is there whole, but may not be, is told as Check tells it.
func TestP6_1GetWhatMayNotBe(t *testing.T) {
	for _, c := range []struct {
		u        api.User
		one, two api.Errno
	}{
		{api.User{}, api.ErrName, api.ErrName},
		{api.User{Name: "A", Hash: "1"}, api.ErrName, api.ErrName},
		{api.User{Name: "a-", Hash: "g", Mail: "x"}, api.ErrName, api.ErrName},
		{api.User{Name: "------------", Hash: "1"}, api.ErrName, api.ErrName},
		{api.User{Name: "a"}, api.ErrForm, api.ErrForm},
		{api.User{Name: "a", Hash: "g", Mail: "x"}, api.ErrForm, api.ErrForm},
		{api.User{Name: "a", Hash: "FFFFFFFFFFFF"}, api.ErrForm, api.ErrForm},
		{api.User{Name: "a", Hash: "1", Mail: "A@b.c", Groups: []string{""}}, api.OK, api.ErrMail},
		{api.User{Name: "a", Hash: "1", Mail: "@@@@@@@@@@@@@@@@@@@@"}, api.OK, api.ErrMail},
		{api.User{Name: "a", Hash: "1", Groups: []string{""}}, api.OK, api.ErrName},
		{api.User{Name: "a", Hash: "1", Groups: []string{"b", "a", "............"}}, api.OK, api.ErrName},
		{api.User{Name: "a", Hash: "1", Groups: []string{"a", "a"}}, api.OK, api.ErrSame},
		{api.User{Name: "a", Hash: "1", Disabled: true, Groups: []string{"b", "a"}}, api.OK, api.ErrSame},
		{api.User{Name: "a", Hash: "1", Groups: []string{"a", "b", "c", "d", "f", "e"}}, api.OK, api.ErrSame},
	} {
		refuses(t, "may not be", append(written(2, c.u), 9), 2, c.two)
		if c.one != api.OK {
			refuses(t, "may not be", append(written(1, c.u), 9), 1, c.one)
		}
	}
}

// What the reader meets while parts are read is told ahead of what Check says
// of parts that stand ahead.
func TestP6_1GetReadersErrors(t *testing.T) {
	bad := []byte{1, 0, 'A', 1, 0, 'g', 1, 0, '@'} // Name, Hash and Mail that may not be
	refuses(t, "bytes wanting behind a bad name", bad[:3], 1, api.ErrShort)
	refuses(t, "bytes wanting behind a bad address", bad, 2, api.ErrShort)
	for x := 2; x < 256; x++ {
		refuses(t, "no truth", append(slices.Clone(bad), byte(x), 0, 0), 2, api.ErrForm)
		refuses(t, "no truth, nothing behind it", append(slices.Clone(bad), byte(x)), 2, api.ErrForm)
	}
	refuses(t, "groups wanting", append(slices.Clone(bad), 1, 2, 0, 1, 0, 'A'), 2, api.ErrShort)
	for x := range 2 {
		b := append([]byte{1, 0, 'a', 1, 0, '1', 0, 0}, byte(x), 0, 0)
		r := octet.Of(b)
		if u := user.Get(r, 2); u.Disabled != (x == 1) || u.Name != "a" || r.End() != api.OK {
			t.Errorf("truth %d: %s, %d", x, shown(u), r.End())
		}
	}
}

// longer are ways to make a full user's part longer than it may be, with what
// Check says of it.
var longer = []struct {
	what string
	turn func(u *api.User)
	only int // the schema that has the part, 0: both
	e    api.Errno
}{
	{"Name", func(u *api.User) { u.Name += "m" }, 0, api.ErrName},
	{"Name of 256", func(u *api.User) { u.Name = strings.Repeat("a", 256) }, 0, api.ErrName},
	{"longest Name", func(u *api.User) { u.Name = strings.Repeat("a", 65535) }, 0, api.ErrName},
	{"Hash", func(u *api.User) { u.Hash += "c" }, 0, api.ErrForm},
	{"longest Hash", func(u *api.User) { u.Hash = strings.Repeat("1", 65535) }, 0, api.ErrForm},
	{"Name and Hash", func(u *api.User) { u.Name, u.Hash = u.Name+"m", u.Hash+"c" }, 0, api.ErrName},
	{"Mail", func(u *api.User) { u.Mail += "i" }, 2, api.ErrMail},
	{"longest Mail", func(u *api.User) { u.Mail = "a@b." + strings.Repeat("c", 65531) }, 2, api.ErrMail},
	{"Groups", func(u *api.User) { u.Groups = append(u.Groups, "b") }, 2, api.ErrFull},
	{"most Groups", func(u *api.User) { u.Groups = make([]string, 65535) }, 2, api.ErrFull},
	{"Groups, one of them longer", func(u *api.User) { u.Groups = append(u.Groups, "abcdefghijkff") }, 2, api.ErrFull},
	{"Mail and Groups", func(u *api.User) { u.Mail, u.Groups = u.Mail+"i", append(u.Groups, "b") }, 2, api.ErrMail},
	{"first group", func(u *api.User) { u.Groups[0] += "b" }, 2, api.ErrName},
	{"last group", func(u *api.User) { u.Groups[5] += "g" }, 2, api.ErrName},
	{"longest group", func(u *api.User) { u.Groups[5] = strings.Repeat("b", 65535) }, 2, api.ErrName},
}

// eachLonger tells all of them, in the schemas that have the part.
func eachLonger(tell func(what string, schema int, u api.User, e api.Errno)) {
	for schema := 1; schema <= 2; schema++ {
		for _, l := range longer {
			if l.only == 0 || l.only == schema {
				u := full()
				l.turn(&u)
				tell("too long: "+l.what, schema, u, l.e)
			}
		}
	}
}

// A part that is there whole is read however long it is; that it is longer
// than may be is for Check to tell.
func TestP6_1GetLong(t *testing.T) {
	for schema := 1; schema <= 2; schema++ {
		if r := octet.Of(written(schema, full())); isZero(user.Get(r, schema)) || r.End() != api.OK {
			t.Error("the longest one isn't read", schema, r.End())
		}
	}
	eachLonger(func(what string, schema int, u api.User, e api.Errno) {
		refuses(t, what, written(schema, u), schema, e)
		refuses(t, what+", more behind it", append(written(schema, u), 9), schema, e)
	})
}

// Of a part that is longer than may be bytes may be wanting, as of any other
// one: in its length, in itself, behind it.
func TestP6_1GetLongAndShort(t *testing.T) {
	eachLonger(func(what string, schema int, u api.User, _ api.Errno) {
		b := written(schema, u)
		step := 1 + len(b)/100 // of long ones some beginnings are enough
		for n := 0; n < len(b); n += step {
			refuses(t, what, b[:n], schema, api.ErrShort)
		}
		refuses(t, what, b[:len(b)-1], schema, api.ErrShort)
	})
	for schema := 1; schema <= 2; schema++ {
		for _, length := range [][]byte{{0, 1}, {13, 0}, {255, 255}} {
			refuses(t, "a name of which no byte is there", length, schema, api.ErrShort)
			refuses(t, "a sum of which no byte is there", append([]byte{1, 0, 'a'}, length...), schema, api.ErrShort)
		}
	}
}

// What the reader meets behind a part that is longer than may be is told ahead
// of what Check says of that part.
func TestP6_1GetReadersErrorsBehindLong(t *testing.T) {
	for _, u := range []api.User{{Name: "abcdefghijklm", Hash: "1"}, {Name: "a", Hash: "0123456789abc"}} {
		for x := 2; x < 256; x++ {
			refuses(t, "no truth", append(written(1, u), 0, 0, byte(x), 0, 0), 2, api.ErrForm)
		}
		refuses(t, "address wanting", append(written(1, u), 21, 0, 'a'), 2, api.ErrShort)
		refuses(t, "groups wanting", append(written(1, u), 0, 0, 0, 7, 0, 1, 0, 'a'), 2, api.ErrShort)
	}
}

// With a reader's error from ahead there is no user, and the error stays.
func TestP6_1GetBehindAnError(t *testing.T) {
	for _, schema := range append([]int{1, 2}, strange...) {
		r := octet.Of(written(2, full()))
		r.Fail(api.ErrSum)
		if u := user.Get(r, schema); !isZero(u) || r.Err() != api.ErrSum {
			t.Errorf("schema %d: %s, %d", schema, shown(u), r.Err())
		}
	}
	r := octet.Of(append(written(1, api.User{Name: "A", Hash: "1"}), written(1, api.User{Name: "a", Hash: "1"})...))
	for range 2 {
		if u := user.Get(r, 1); !isZero(u) || r.Err() != api.ErrName {
			t.Error(u, r.Err())
		}
	}
}

// dice is a row of numbers that look thrown, the same each time.
type dice uint64

func (d *dice) next(n int) int {
	*d = *d*6364136223846793005 + 1442695040888963407
	return int(uint64(*d) >> 33 % uint64(n))
}

// Of any bytes: what is read may be, and its bytes are those that were read;
// else it is zero.
func TestP6_3AnyBytes(t *testing.T) {
	var d dice
	read := 0
	for range 60000 {
		schema := 1 + d.next(2)
		b := written(schema, api.User{Name: "ab", Hash: "1f", Mail: "a@b.c", Groups: []string{"a", "b"}})
		for range d.next(3) {
			b[d.next(len(b))] = []byte{0, 1, 2, 3, 'a', 'b', 'c', '1', '-', '@', 'A', 255}[d.next(12)]
		}
		b = b[:len(b)-d.next(2)*d.next(len(b))]
		r := octet.Of(b)
		u := user.Get(r, schema)
		if r.Err() != api.OK {
			if !isZero(u) {
				t.Fatalf("schema %d, %v: %s beside %d", schema, b, shown(u), r.Err())
			}
			continue
		}
		read++
		var w octet.Writer
		if user.Check(schema, u) != api.OK || !user.Put(&w, schema, u) || !bytes.Equal(w.Bytes(), b[:len(b)-r.Left()]) {
			t.Fatalf("schema %d, %v: %s, written again %v", schema, b, shown(u), w.Bytes())
		}
	}
	if read < 10000 {
		t.Error("too few were read to tell anything", read)
	}
}

// Several users stand one behind the other, of either schema.
func TestP6_3OneBehindTheOther(t *testing.T) {
	var d dice
	var w octet.Writer
	var users []api.User
	var schemas []int
	all := full().Groups
	for range 2000 {
		schema := 1 + d.next(2)
		u := api.User{Name: full().Name[:1+d.next(12)], Hash: full().Hash[:1+d.next(12)]}
		if schema == 2 {
			u.Mail = []string{"", "a@b.c", "abcdefghijkl@bcde.gh"}[d.next(3)]
			u.Disabled = d.next(2) == 1
			from := d.next(7)
			u.Groups = all[from : from+d.next(7-from)]
		}
		if !user.Put(&w, schema, u) {
			t.Fatalf("schema %d, %s isn't written", schema, shown(u))
		}
		users, schemas = append(users, u), append(schemas, schema)
	}
	r := octet.Of(w.Bytes())
	for i, u := range users {
		if v := user.Get(r, schemas[i]); !same(u, v) {
			t.Fatalf("%d: %s is read as %s, error %d", i, shown(u), shown(v), r.Err())
		}
	}
	if r.End() != api.OK {
		t.Error(r.End())
	}
}
