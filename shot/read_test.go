package shot_test

import (
	"bytes"
	"fmt"
	"slices"
	"strings"
	"testing"

	"interrex/api"
	"interrex/shot"
)

// refused tells whether of these bytes there is no directory, by that error;
// they stay as they are.
func refused(t *testing.T, what string, b []byte, want api.Errno) {
	t.Helper()
	was := bytes.Clone(b)
	if d, e := shot.Read(b); d != nil || e != want {
		t.Errorf("%s, %.60v: %v, error %d, not %d", what, b, d, e, want)
	}
	if !bytes.Equal(b, was) {
		t.Errorf("%s: the bytes were %.60v, and are %.60v", what, was, b)
	}
}

// isRead tells whether these bytes are those of a directory with these users.
func isRead(t *testing.T, what string, b []byte, users []api.User) {
	t.Helper()
	d, e := shot.Read(b)
	if e != api.OK {
		t.Errorf("%s: error %d", what, e)
	}
	holds(t, what, d, users)
}

// named is users that are named so, with the sum 1.
func named(names ...string) []api.User {
	var l []api.User
	for _, n := range names {
		l = append(l, api.User{Name: n, Hash: "1"})
	}
	return l
}

func TestP8_1ReadExample(t *testing.T) {
	isRead(t, "an empty directory", []byte{1, 0, 0}, nil)
}

func TestP8_1Read(t *testing.T) {
	b := []byte{1, 2, 0, 1, 0, 'a', 2, 0, '0', 'f', 3, 0, 'a', '-', 'b', 1, 0, '3'}
	isRead(t, "two users", b, []api.User{{Name: "a", Hash: "0f"}, {Name: "a-b", Hash: "3"}})
	for n := range api.MaxUsers + 1 {
		isRead(t, fmt.Sprint(n), written(people(n)), people(n))
		isRead(t, fmt.Sprint(n, " large ones"), written(large(n)), large(n))
	}
	many := named("a", "a-b", "a.b", "a0", "aa", "aab", "ab", "b", "b1", "b10", "b2", "z")
	isRead(t, "names that rise byte by byte", written(many), many)
}

// What is read is a directory like any other one.
func TestP8_1ReadLivesOn(t *testing.T) {
	d, e := shot.Read(written(people(api.MaxUsers - 1)))
	if d == nil || e != api.OK {
		t.Fatal(e)
	}
	if e := d.Create("n00", "1"); e != api.ErrSame {
		t.Error("one of a name that there is", e)
	}
	if e := d.Create("z", "1"); e != api.OK {
		t.Error("one more", e)
	}
	if e := d.Create("zz", "1"); e != api.ErrFull {
		t.Error("one too many", e)
	}
	if h, e := d.Lookup("n10"); h != "a" || e != api.OK {
		t.Error(h, e)
	}
}

func TestP8_1ReadNoBytes(t *testing.T) {
	for _, b := range [][]byte{nil, {}, make([]byte, 0, 8), []byte{1, 0, 0}[:0]} {
		refused(t, "no bytes", b, api.ErrShort)
	}
}

// Whatever stands behind another schema, it isn't looked at.
func TestP8_1ReadOfAnotherSchema(t *testing.T) {
	for x := range 256 {
		if x == 1 {
			continue
		}
		refused(t, "alone", []byte{byte(x)}, api.ErrVersion)
		refused(t, "short", []byte{byte(x), 1}, api.ErrVersion)
		refused(t, "full", []byte{byte(x), 13, 0}, api.ErrVersion)
		refused(t, "long", []byte{byte(x), 0, 0, 0}, api.ErrVersion)
		for _, l := range [][]api.User{nil, people(3), named("b", "a"), named("A")} {
			b := written(l)
			b[0] = byte(x)
			refused(t, shown(l), b, api.ErrVersion)
		}
	}
	refused(t, "an empty directory of the second schema", []byte{2, 0, 0, 0, 0}, api.ErrVersion)
}

// Each beginning is short, and tells nothing of what is there.
func TestP8_1ReadShort(t *testing.T) {
	for _, l := range [][]api.User{nil, people(1), people(3), large(api.MaxUsers)} {
		b := written(l)
		for n := range len(b) {
			refused(t, "a beginning", b[:n], api.ErrShort)
		}
	}
	for x := range 256 {
		refused(t, "half of how many there are", []byte{1, byte(x)}, api.ErrShort)
	}
	for n := range api.MaxUsers {
		b := said(n+1, string(written(people(n))[3:]))
		refused(t, "one user less than it says", b, api.ErrShort)
	}
	for _, length := range []string{"\x01\x00", "\x0d\x00", "\x00\x01", "\xff\xff"} {
		refused(t, "a name is wanting", said(1, length), api.ErrShort)
		refused(t, "a sum is wanting", said(1, "\x01\x00a", length), api.ErrShort)
	}
}

// More users than may be are told ahead of all that stands behind.
func TestP8_1ReadFull(t *testing.T) {
	for _, n := range []int{13, 14, 15, 16, 127, 128, 255, 256, 257, 256 + 12, 512, 3 << 8, 12 << 8, 13 << 8, 1<<15 + 1, 1<<16 - 1} {
		refused(t, "nothing behind it", said(n), api.ErrFull)
		refused(t, "a bad name behind it", said(n, pair("A", "1")), api.ErrFull)
		refused(t, "bytes wanting behind it", said(n, "\x01"), api.ErrFull)
		refused(t, "no more than may be behind it", said(n, string(written(people(12))[3:])), api.ErrFull)
		refused(t, "names that don't rise behind it", said(n, pair("b", "1"), pair("a", "1")), api.ErrFull)
	}
	refused(t, "all of them are there", written(people(13)), api.ErrFull)
	refused(t, "all of them are there", written(people(300)), api.ErrFull)
}

// bad are users that may not be, by their errors.
var bad = map[api.Errno][]api.User{
	api.ErrName: {
		{}, {Hash: "1"}, {Name: "A", Hash: "1"}, {Name: "a-", Hash: "1"}, {Name: "9a", Hash: "1"}, {Name: "a b", Hash: "1"}, {Name: "ä", Hash: "1"}, {Name: "A", Hash: "g"},
		{Name: "abcdefghijklm", Hash: "1"}, {Name: strings.Repeat("a", 256), Hash: "1"}, {Name: strings.Repeat("a", 65535), Hash: "g"},
	},
	api.ErrForm: {
		{Name: "n"}, {Name: "n", Hash: "g"}, {Name: "n", Hash: "F"}, {Name: "n", Hash: "1 "}, {Name: "n", Hash: "\x00"},
		{Name: "n", Hash: "0123456789abc"}, {Name: "n", Hash: strings.Repeat("1", 256)}, {Name: "n", Hash: strings.Repeat("1", 65535)},
	},
}

// eachBad tells all of them.
func eachBad(tell func(u api.User, e api.Errno)) {
	for e, l := range bad {
		for _, u := range l {
			tell(u, e)
		}
	}
}

// A user's errors, of the first, one in the midst and the last user.
func TestP8_1ReadWhatMayNotBe(t *testing.T) {
	eachBad(func(u api.User, e api.Errno) {
		refused(t, "alone", written([]api.User{u}), e)
		for i := range 4 {
			refused(t, fmt.Sprint("at ", i), written(slices.Insert(people(3), i, u)), e)
		}
		refused(t, "the twelfth", written(append(people(11), u)), e)
	})
}

// What is wrong further to the left is told: of two users, and of one that may
// not be and bytes that are wanting.
func TestP8_1ReadPartByPart(t *testing.T) {
	eachBad(func(u api.User, e api.Errno) {
		eachBad(func(v api.User, _ api.Errno) {
			refused(t, "two that may not be", written([]api.User{u, v}), e)
		})
		b := written([]api.User{u})
		refused(t, "bytes wanting in itself", b[:len(b)-1], api.ErrShort)
		refused(t, "the next user wanting", said(2, pair(u.Name, u.Hash)), e)
		refused(t, "bytes wanting in the next user", said(2, pair(u.Name, u.Hash), "\x01"), e)
		refused(t, "bytes left", append(b, 0), e)
	})
}

func TestP8_1ReadNamesThatDontRise(t *testing.T) {
	for _, l := range [][]api.User{
		named("a", "a"), named("b", "a"), named("a", "b", "b"), named("a", "a", "b"), named("a", "b", "a"), named("b", "a", "c"), named("a", "c", "b", "d"),
		named("ab", "a"), named("a0", "a-b"), named("a0", "a.b"), named("aa", "a0"), named("a.b", "a-b"),
		named("a", "b", "c", "d", "e", "f", "g", "h", "i", "j", "l", "k"), named("a", "b", "c", "d", "e", "f", "g", "h", "i", "j", "k", "k"),
		{{Name: "a", Hash: "1"}, {Name: "a", Hash: "2"}},
	} {
		refused(t, shown(l), written(l), api.ErrSame)
		refused(t, shown(l)+", bytes left", append(written(l), 0), api.ErrSame)
		refused(t, shown(l)+", a user left", append(written(l), pair("z", "1")...), api.ErrSame)
	}
}

// Whether names rise is asked behind all users.
func TestP8_1ReadUsersAheadOfTheirRow(t *testing.T) {
	fall := pair("b", "1") + pair("a", "1")
	refused(t, "the next user wanting", said(3, fall), api.ErrShort)
	refused(t, "bytes wanting in the next user", said(3, fall, "\x01\x00c\x01"), api.ErrShort)
	eachBad(func(u api.User, e api.Errno) {
		refused(t, "the next user may not be", said(3, fall, pair(u.Name, u.Hash)), e)
		refused(t, "the next user may not be, and more", said(4, fall, pair(u.Name, u.Hash)), e)
	})
}

func TestP8_1ReadBytesLeft(t *testing.T) {
	for _, l := range [][]api.User{nil, people(1), people(3), large(api.MaxUsers)} {
		for x := range 256 {
			refused(t, "a byte", append(written(l), byte(x)), api.ErrLong)
		}
		refused(t, "a user more than it says", append(written(l), pair("z", "1")...), api.ErrLong)
		refused(t, "a user that may not be", append(written(l), pair("A", "g")...), api.ErrLong)
		refused(t, "another directory", append(written(l), written(l)...), api.ErrLong)
		refused(t, "many", append(written(l), make([]byte, 1<<16)...), api.ErrLong)
	}
}
