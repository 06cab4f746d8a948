package folio_test

import (
	"bytes"
	"fmt"
	"slices"
	"strings"
	"testing"

	"interrex/api"
	"interrex/folio"
)

// refused tells whether of these bytes there is no directory, by that error;
// they stay as they are.
func refused(t *testing.T, what string, b []byte, want api.Errno) {
	t.Helper()
	was := bytes.Clone(b)
	if d, e := folio.Read(b); d != nil || e != want {
		t.Errorf("%s, %.90q: %v, error %d, not %d", what, b, d, e, want)
	}
	if !bytes.Equal(b, was) {
		t.Errorf("%s: the bytes were %.90q, and are %.90q", what, was, b)
	}
}

// isRead tells whether these bytes are those of a directory with these users
// and groups.
func isRead(t *testing.T, what string, b []byte, l []api.User, groups []string) {
	t.Helper()
	d, e := folio.Read(b)
	if e != api.OK {
		t.Errorf("%s: error %d", what, e)
	}
	holds(t, what, d, l, groups)
}

// each goes through directories of several kinds.
func each(tell func(l []api.User, groups []string)) {
	tell(nil, nil)
	tell(nil, named(api.MaxGroups))
	tell(people(1), nil)
	tell(people(api.MaxUsers), named(1))
	tell(three())
	tell(large(api.MaxUsers, api.MaxGroups))
}

func TestP12_1ReadExample(t *testing.T) {
	isRead(t, "an empty directory", []byte{2, 0, 0, 0, 0}, nil, nil)
}

func TestP12_1Read(t *testing.T) {
	l, groups := three()
	isRead(t, "three users, three groups", threeBytes, l, groups)
	for users := range api.MaxUsers + 1 {
		for groups := range api.MaxGroups + 1 {
			what := fmt.Sprint(users, " users, ", groups, " groups")
			isRead(t, what, written(people(users), named(groups)), people(users), named(groups))
			l, g := large(users, groups)
			isRead(t, what+", large ones", written(l, g), l, g)
		}
	}
	many := called("a", "a-b", "a.b", "a0", "aa", "aab", "ab", "b", "b1", "b10", "b2", "z")
	some := []string{"a", "a-b", "a.b", "a0", "aa", "b"}
	isRead(t, "names that rise byte by byte", written(many, some), many, some)
}

// What is read is a directory like any other one, in all that it tells.
func TestP12_1ReadLivesOn(t *testing.T) {
	d, e := folio.Read(threeBytes)
	if d == nil || e != api.OK {
		t.Fatal(e)
	}
	if n, e := d.Find("C@b.c"); n != "cid" || e != api.OK {
		t.Error("whose an address is", n, e)
	}
	if l, e := d.Members("dev"); !slices.Equal(l, []string{"ann", "bob"}) || e != api.OK {
		t.Error("members", l, e)
	}
	if l, e := d.Members("top"); len(l) != 0 || e != api.OK {
		t.Error("no members", l, e)
	}
	for what, x := range map[string]struct{ e, want api.Errno }{
		"a name that there is":      {d.Create("bob", "1"), api.ErrSame},
		"another one's address":     {d.SetMail("bob", "a@b.c"), api.ErrSame},
		"a disabled one's sum":      {d.SetHash("bob", "1"), api.ErrState},
		"in a group already":        {d.Join("dev", "bob"), api.ErrSame},
		"in no such group":          {d.Leave("top", "bob"), api.ErrState},
		"a group that there is":     {d.MakeGroup("ops"), api.ErrSame},
		"another one's other name":  {d.Rename("ann", "cid"), api.ErrSame},
		"an address that was free":  {d.SetMail("bob", "b@b.c"), api.OK},
		"a name that was free":      {d.Rename("cid", "dan"), api.OK},
		"a group that wasn't there": {d.MakeGroup("all"), api.OK},
	} {
		if x.e != x.want {
			t.Errorf("%s: error %d, not %d", what, x.e, x.want)
		}
	}
	if n, e := d.Find("c@b.c"); n != "dan" || e != api.OK {
		t.Error("by another name", n, e)
	}
	full, e := folio.Read(written(people(api.MaxUsers), named(api.MaxGroups)))
	if full == nil || full.Create("z", "1") != api.ErrFull || full.MakeGroup("z") != api.ErrFull {
		t.Error("a full one takes more", e)
	}
}

func TestP12_1ReadNoBytes(t *testing.T) {
	for _, b := range [][]byte{nil, {}, make([]byte, 0, 8), []byte{2, 0, 0, 0, 0}[:0]} {
		refused(t, "no bytes", b, api.ErrShort)
	}
}

// Whatever stands behind another schema, it isn't looked at.
func TestP12_1ReadOfAnotherSchema(t *testing.T) {
	for x := range 256 {
		if x == 2 {
			continue
		}
		for _, behind := range []string{"", "\x00", "\x07\x00", "\x00\x00\x0d\x00", "\x00\x00\x00\x00\x00", "\x01\x00\x0d\x00", "\xff\xff\xff\xff"} {
			refused(t, "another schema", append([]byte{byte(x)}, behind...), api.ErrVersion)
		}
		each(func(l []api.User, groups []string) {
			b := written(l, groups)
			b[0] = byte(x)
			refused(t, "another schema", b, api.ErrVersion)
		})
	}
	refused(t, "an empty directory of the first schema", []byte{1, 0, 0}, api.ErrVersion)
}

// Each beginning is short, and tells nothing of what is there.
func TestP12_1ReadShort(t *testing.T) {
	each(func(l []api.User, groups []string) {
		b := written(l, groups)
		for n := range len(b) {
			refused(t, "a beginning", b[:n], api.ErrShort)
		}
	})
	for x := range 256 {
		refused(t, "half of how many groups there are", []byte{2, byte(x)}, api.ErrShort)
		refused(t, "half of how many users there are", []byte{2, 0, 0, byte(x)}, api.ErrShort)
	}
	for n := range api.MaxGroups {
		b := "\x02" + number(n+1) + row(named(n)...)[2:]
		refused(t, "one group less than it says", []byte(b), api.ErrShort)
		refused(t, "half of its length", []byte(b+"\x01"), api.ErrShort)
	}
	for n := range api.MaxUsers {
		refused(t, "one user less than it says", said(named(2), n+1, persons(people(n))), api.ErrShort)
	}
	for n := 1; n <= api.MaxName; n++ {
		refused(t, "a group is wanting", []byte("\x02"+number(1)+number(n)), api.ErrShort)
		refused(t, "a group's last byte is wanting", []byte("\x02"+number(1)+number(n)+strings.Repeat("a", n-1)), api.ErrShort)
	}
	for _, n := range []int{1, 12, 13, 20, 21, 256, 65535} {
		for _, ahead := range []string{"", text("a"), text("a") + text("1"), text("a") + text("1") + text("") + "\x00" + number(1)} {
			refused(t, "a part of a user is wanting", said(nil, 1, ahead, number(n)), api.ErrShort)
		}
	}
}

// tooMany is numbers of 2 above a limit: the next ones, those whose lower or
// upper byte alone is small, and the last one.
func tooMany(most int) []int {
	return []int{most + 1, most + 2, 127, 128, 255, 256, 256 + most, 512, 257 + most, most << 8, (most + 1) << 8, 1<<15 + 1, 1<<16 - 1}
}

// More groups than may be are told ahead of all that stands behind.
func TestP12_1ReadTooManyGroups(t *testing.T) {
	for _, n := range tooMany(api.MaxGroups) {
		for _, behind := range []string{"", "\x01", number(1), number(13), text("a"), text("?"), row(named(6)...)[2:], row("b", "a")[2:], number(0) + number(13)} {
			refused(t, "too many groups", []byte("\x02"+number(n)+behind), api.ErrLong)
		}
	}
	for _, n := range []int{7, 8, 300} {
		refused(t, "all of them are there", written(nil, named(n)), api.ErrLong)
		refused(t, "all of them are there, and users", written(people(3), named(n)), api.ErrLong)
	}
}

// A group that is too long is told ahead of its bytes.
func TestP12_1ReadTooLongGroup(t *testing.T) {
	for _, n := range tooMany(api.MaxName) {
		for i := range api.MaxGroups {
			ahead := "\x02" + number(i+1) + row(named(i)...)[2:] + number(n)
			refused(t, "a long group, nothing behind it", []byte(ahead), api.ErrLong)
			refused(t, "a long group, some of it", []byte(ahead+"abc"), api.ErrLong)
			refused(t, "a long group that is no name", []byte(ahead+strings.Repeat("?", n)+number(13)), api.ErrLong)
		}
		for i := range 4 {
			l := slices.Insert(named(3), i, strings.Repeat("a", n))
			refused(t, fmt.Sprint("a long group at ", i), written(nil, l), api.ErrLong)
			refused(t, fmt.Sprint("a long group at ", i, ", and users"), written(people(3), l), api.ErrLong)
		}
	}
	refused(t, "a long group ahead of a short one", []byte("\x02"+number(2)+number(13)), api.ErrLong)
	refused(t, "a short group ahead of a long one", []byte("\x02"+number(2)+number(12)+number(13)), api.ErrShort)
}

// More users than may be are told ahead of all that stands behind.
func TestP12_1ReadFull(t *testing.T) {
	for _, n := range tooMany(api.MaxUsers) {
		for _, groups := range [][]string{nil, named(1), named(api.MaxGroups), {"?"}, {"b", "a"}} {
			refused(t, "nothing behind it", said(groups, n), api.ErrFull)
			refused(t, "bytes wanting behind it", said(groups, n, "\x01"), api.ErrFull)
			refused(t, "a user that may not be behind it", said(groups, n, persons(called("A"))), api.ErrFull)
			refused(t, "no more than may be behind it", said(groups, n, persons(people(12))), api.ErrFull)
			refused(t, "names that don't rise behind it", said(groups, n, persons(called("b", "a"))), api.ErrFull)
		}
	}
	for _, n := range []int{13, 14, 300} {
		refused(t, "all of them are there", written(people(n), named(2)), api.ErrFull)
	}
}

func TestP12_1ReadBytesLeft(t *testing.T) {
	each(func(l []api.User, groups []string) {
		for x := range 256 {
			refused(t, "a byte", append(written(l, groups), byte(x)), api.ErrLong)
		}
		refused(t, "a user more than it says", append(written(l, groups), person(called("z")[0])...), api.ErrLong)
		refused(t, "a user that may not be", append(written(l, groups), person(called("?")[0])...), api.ErrLong)
		refused(t, "another directory", append(written(l, groups), written(l, groups)...), api.ErrLong)
		refused(t, "many", append(written(l, groups), make([]byte, 1<<16)...), api.ErrLong)
	})
}
