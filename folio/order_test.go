package folio_test

import (
	"fmt"
	"slices"
	"strings"
	"testing"

	"interrex/api"
)

// bad are users that may not be, by their errors.
var bad = map[api.Errno][]api.User{
	api.ErrName: {
		{}, {Hash: "1"}, {Name: "A", Hash: "1"}, {Name: "a-", Hash: "1"}, {Name: "9a", Hash: "1"}, {Name: "ä", Hash: "1"}, {Name: "A", Hash: "g", Mail: "?"},
		{Name: "abcdefghijklm", Hash: "1"}, {Name: strings.Repeat("a", 65535), Hash: "g"},
		{Name: "n", Hash: "1", Groups: []string{""}}, {Name: "n", Hash: "1", Groups: []string{"b", "A"}}, {Name: "n", Hash: "1", Groups: []string{"abcdefghijklm"}},
	},
	api.ErrForm: {
		{Name: "n"}, {Name: "n", Hash: "g"}, {Name: "n", Hash: "F", Mail: "?"}, {Name: "n", Hash: "0123456789abc"}, {Name: "n", Hash: strings.Repeat("1", 65535)},
	},
	api.ErrMail: {
		{Name: "n", Hash: "1", Mail: "?"}, {Name: "n", Hash: "1", Mail: "a@b"}, {Name: "n", Hash: "1", Mail: "A@b.c"}, {Name: "n", Hash: "1", Mail: "abcdefghij@klmnopq.rs"},
		{Name: "n", Hash: "1", Mail: strings.Repeat("a", 65535)}, {Name: "n", Hash: "1", Mail: "@b.c", Groups: named(7)},
	},
	api.ErrFull: {{Name: "n", Hash: "1", Groups: named(7)}, {Name: "n", Hash: "1", Groups: append(named(6), "?")}, {Name: "n", Hash: "1", Groups: named(300)}},
	api.ErrSame: {{Name: "n", Hash: "1", Groups: []string{"a", "a"}}, {Name: "n", Hash: "1", Groups: []string{"b", "a"}}, {Name: "n", Hash: "1", Groups: []string{"a", "c", "b"}}},
}

// eachBad tells all of them.
func eachBad(tell func(u api.User, e api.Errno)) {
	for e, l := range bad {
		for _, u := range l {
			tell(u, e)
		}
	}
}

// A user's errors, of the first, one in the midst and the last user.
func TestP12_1ReadWhatMayNotBe(t *testing.T) {
	eachBad(func(u api.User, e api.Errno) {
		refused(t, "alone", written([]api.User{u}, nil), e)
		for i := range 4 {
			refused(t, fmt.Sprint("at ", i), written(slices.Insert(people(3), i, u), named(6)), e)
		}
		refused(t, "the twelfth", written(append(people(11), u), named(1)), e)
	})
}

// A truth is 0 or 1.
func TestP12_1ReadNoTruth(t *testing.T) {
	for x := 2; x < 256; x++ {
		truth := string([]byte{byte(x)})
		refused(t, "no truth", said(nil, 1, text("a"), text("1"), text(""), truth, number(0)), api.ErrForm)
		refused(t, "no truth, and no groups behind it", said(nil, 1, text("a"), text("1"), text(""), truth), api.ErrForm)
		refused(t, "no truth, ahead of it no name", said(nil, 1, text("A"), text("1"), text(""), truth, number(0)), api.ErrForm)
	}
}

// What is wrong further to the left is told: of two users, and of one that may
// not be and bytes that are wanting.
func TestP12_1ReadPartByPart(t *testing.T) {
	eachBad(func(u api.User, e api.Errno) {
		eachBad(func(v api.User, _ api.Errno) {
			refused(t, "two that may not be", written([]api.User{u, v}, nil), e)
		})
		b := written([]api.User{u}, nil)
		refused(t, "bytes wanting in itself", b[:len(b)-1], api.ErrShort)
		refused(t, "the next user wanting", said(nil, 2, person(u)), e)
		refused(t, "bytes wanting in the next user", said(nil, 2, person(u), "\x01"), e)
		refused(t, "bytes left", append(b, 0), e)
	})
}

// unfit are users and groups that each may be, but not together, or not in
// this order, by their errors: chapter 11's Of tells them.
func unfit(tell func(l []api.User, groups []string, e api.Errno)) {
	for _, names := range [][]string{
		{"a", "a"}, {"b", "a"}, {"a", "b", "b"}, {"a", "b", "a"}, {"a", "c", "b", "d"}, {"a0", "a-b"}, {"a0", "a.b"}, {"aa", "a0"}, {"a.b", "a-b"},
	} {
		tell(called(names...), nil, api.ErrSame)
		tell(called(names...), named(2), api.ErrSame)
		tell(nil, names, api.ErrSame)
		tell(people(3), names, api.ErrSame)
	}
	for _, g := range []string{"", "A", "a-", "9", "a b", "?", "\xff", "ABCDEFGHIJKL"} {
		for i := range 4 {
			tell(nil, slices.Insert(named(3), i, g), api.ErrName)
			tell(people(12), slices.Insert(named(3), i, g), api.ErrName)
		}
	}
	for _, groups := range [][]string{{"dev"}, {"g"}, {"g0000", "h"}, {"a", "g0001"}} {
		u := api.User{Name: "n", Hash: "1", Groups: groups}
		tell([]api.User{u}, nil, api.ErrNone)
		tell([]api.User{u}, named(6), api.ErrNone)
		tell(append(called("a", "b"), u), named(6), api.ErrNone)
		tell(append([]api.User{u}, called("x", "y")...), named(6), api.ErrNone)
	}
	for i := range 4 {
		for j := range i {
			l, groups := large(4, 6)
			l[i].Mail = l[j].Mail
			tell(l, groups, api.ErrSame)
		}
	}
}

// Of's errors are told ahead of bytes that are left, and only once all users
// are read.
func TestP12_1ReadWhatDoesntFit(t *testing.T) {
	unfit(func(l []api.User, groups []string, e api.Errno) {
		what := fmt.Sprintf("%s, %q", shown(l), groups)
		b := written(l, groups)
		refused(t, what, b, e)
		refused(t, what+", a byte left", append(slices.Clone(b), 0), e)
		refused(t, what+", a user left", append(slices.Clone(b), person(called("z")[0])...), e)
		for n := range len(b) {
			refused(t, what+", cut short", b[:n], api.ErrShort)
		}
		if len(l) == api.MaxUsers {
			return
		}
		refused(t, what+", the next user wanting", said(groups, len(l)+1, persons(l)), api.ErrShort)
		eachBad(func(u api.User, e api.Errno) {
			refused(t, what+", the next user may not be", written(append(slices.Clone(l), u), groups), e)
		})
	})
}

// Of's own order: users stand ahead of groups, and how they fit together
// behind them, user by user.
func TestP12_1ReadOrderOfWhatDoesntFit(t *testing.T) {
	out := api.User{Name: "m", Hash: "1", Groups: []string{"none"}}
	fall := []api.User{out, called("a")[0]}
	refused(t, "users fall, a group is no name", written(fall, []string{"b", "?"}), api.ErrSame)
	refused(t, "users fall, and one's group isn't there", written(fall, nil), api.ErrSame)
	refused(t, "a group is no name, and they fall", written([]api.User{out}, []string{"b", "a", "?"}), api.ErrName)
	refused(t, "groups fall, and one isn't there", written([]api.User{out}, []string{"b", "a"}), api.ErrSame)
	one := api.User{Name: "a", Hash: "1", Mail: "a@b.c"}
	two := api.User{Name: "n", Hash: "1", Mail: "a@b.c"}
	refused(t, "a group isn't there, then an address is another one's", written([]api.User{one, out, two}, nil), api.ErrNone)
	two.Name = "b"
	refused(t, "an address is another one's, then a group isn't there", written([]api.User{one, two, out}, nil), api.ErrSame)
	two.Groups = []string{"none"}
	refused(t, "both of one", written([]api.User{one, two}, nil), api.ErrNone)
}

// From the left to the right: each error hides those of what stands behind it.
func TestP12_1ReadFromTheLeft(t *testing.T) {
	user := person(called("?")[0])
	for _, c := range []struct {
		what string
		b    string
		e    api.Errno
	}{
		{"no bytes", "", api.ErrShort},
		{"another schema, too many groups", "\x03\x07\x00", api.ErrVersion},
		{"too many groups, one too long", "\x02\x07\x00\x0d\x00", api.ErrLong},
		{"a group too long, bytes wanting", "\x02\x06\x00\x0d\x00", api.ErrLong},
		{"a group's bytes wanting", "\x02\x06\x00\x0c\x00?", api.ErrShort},
		{"a group no name, too many users", "\x02\x01\x00\x01\x00?\x0d\x00", api.ErrFull},
		{"a group no name, a user short", "\x02\x01\x00\x01\x00?\x01\x00\x01", api.ErrShort},
		{"a group no name, a user's sum none", "\x02\x01\x00\x01\x00?\x01\x00" + person(api.User{Name: "a", Hash: "?"}), api.ErrForm},
		{"a group no name, bytes left", "\x02\x01\x00\x01\x00?\x00\x00\x00", api.ErrName},
		{"too many users, the first one none", "\x02\x00\x00\x0d\x00" + user, api.ErrFull},
		{"a user none, bytes left", "\x02\x00\x00\x01\x00" + user + "\x00", api.ErrName},
		{"bytes left", "\x02\x00\x00\x00\x00\x00", api.ErrLong},
	} {
		refused(t, c.what, []byte(c.b), c.e)
	}
}
