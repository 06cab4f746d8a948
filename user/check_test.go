package user_test

import (
	"fmt"
	"math"
	"slices"
	"strings"
	"testing"

	"interrex/api"
	"interrex/user"
)

// part is a field's value, and the error of a user that has it.
type part[T any] struct {
	value T
	e     api.Errno
}

// The parts of which users are put together here. Errors of Mail and Groups
// are those of the second schema.
var (
	nameParts = []part[string]{
		{"a", api.OK}, {"ann-b.9", api.OK}, {"abcdefghijkl", api.OK},
		{"", api.ErrName}, {"A", api.ErrName}, {"a-", api.ErrName}, {"9a", api.ErrName}, {"abcdefghijklm", api.ErrName}, {"a\x00", api.ErrName},
	}
	hashParts = []part[string]{
		{"1", api.OK}, {"0123456789ab", api.OK},
		{"", api.ErrForm}, {"g", api.ErrForm}, {"F", api.ErrForm}, {"0123456789abc", api.ErrForm},
	}
	mailParts = []part[string]{
		{"", api.OK}, {"a@b.c", api.OK}, {"abcdefghijkl@bcde.gh", api.OK},
		{"A@b.c", api.ErrMail}, {"a@b.C", api.ErrMail}, {"a", api.ErrMail}, {" ", api.ErrMail}, {"a@b", api.ErrMail}, {"abcdefghijkl@bcde.ghi", api.ErrMail},
	}
	groupParts = []part[[]string]{
		{nil, api.OK}, {[]string{}, api.OK},
		{[]string{"a"}, api.OK}, {[]string{"a", "a-b", "a.b", "a0", "aa", "b"}, api.OK}, {[]string{"abcdefghijkk", "abcdefghijkl"}, api.OK},
		{[]string{"a", "b", "c", "d", "e", "f", "g"}, api.ErrFull},
		{[]string{"a", "b", "c", "d", "e", "f", ""}, api.ErrFull},
		{[]string{"a", "a", "a", "a", "a", "a", "a"}, api.ErrFull},
		{make([]string, 100000), api.ErrFull},
		{[]string{""}, api.ErrName}, {[]string{"A"}, api.ErrName}, {[]string{"abcdefghijklm"}, api.ErrName},
		{[]string{"a", "b-"}, api.ErrName}, {[]string{"a", "b", "c", "d", "e", "."}, api.ErrName},
		{[]string{"b", "a", "0"}, api.ErrName}, {[]string{"a", "a", "B"}, api.ErrName}, // a name that is none counts, wherever it stands
		{[]string{"a", "a"}, api.ErrSame}, {[]string{"b", "a"}, api.ErrSame}, {[]string{"aa", "a"}, api.ErrSame},
		{[]string{"a0", "a-b"}, api.ErrSame}, {[]string{"a", "c", "b"}, api.ErrSame},
		{[]string{"a", "b", "c", "d", "e", "e"}, api.ErrSame}, {[]string{"b", "a", "c", "d", "e", "f"}, api.ErrSame},
	}
)

// shown is a user for whoever reads of a fault, long ones cut off.
func shown(u api.User) string { return fmt.Sprintf("%.300s", fmt.Sprintf("%#v", u)) }

// strange are numbers of schemas that there aren't; some look like one that
// there is, if bits are lost.
var strange = []int{0, 3, -1, -2, 4, 12, 1 << 8, 1<<8 + 1, 1<<16 + 2, math.MaxInt, math.MinInt, math.MinInt + 1, math.MinInt + 2}

// firstOf is the first error, told once more in another way.
func firstOf(l ...api.Errno) api.Errno {
	l = slices.DeleteFunc(l, func(e api.Errno) bool { return e == api.OK })
	if len(l) == 0 {
		return api.OK
	}
	return l[0]
}

// eachUser tells all users of these parts, with their errors of either schema.
func eachUser(tell func(u api.User, one, two api.Errno)) {
	for _, n := range nameParts {
		for _, h := range hashParts {
			for _, m := range mailParts {
				for _, g := range groupParts {
					for _, disabled := range []bool{false, true} {
						u := api.User{Name: n.value, Hash: h.value, Mail: m.value, Disabled: disabled, Groups: g.value}
						more := api.OK
						if m.value != "" || disabled || len(g.value) > 0 {
							more = api.ErrState
						}
						tell(u, firstOf(n.e, h.e, more), firstOf(n.e, h.e, m.e, g.e))
					}
				}
			}
		}
	}
}

func TestP6_1CheckEachPart(t *testing.T) {
	eachUser(func(u api.User, one, two api.Errno) {
		if e := user.Check(1, u); e != one {
			t.Errorf("first schema, %s: %d, not %d", shown(u), e, one)
		}
		if e := user.Check(2, u); e != two {
			t.Errorf("second schema, %s: %d, not %d", shown(u), e, two)
		}
	})
}

// The schema is asked ahead of all else, of users that may be and of others.
func TestP6_1CheckSchema(t *testing.T) {
	users := []api.User{
		{}, {Name: "a", Hash: "1"}, {Name: "a", Hash: "1", Mail: "a@b.c", Disabled: true, Groups: []string{"a"}},
		{Name: "A"}, {Name: "a", Hash: "g"}, {Name: "a", Hash: "1", Mail: "a"}, {Name: "a", Hash: "1", Groups: []string{"b", "a"}},
	}
	for _, schema := range strange {
		for _, u := range users {
			if e := user.Check(schema, u); e != api.ErrVersion {
				t.Errorf("%d, %s: %d", schema, shown(u), e)
			}
		}
	}
}

// All else must be zero in the first schema, each field by itself, whatever
// the second schema says of it.
func TestP6_1CheckFirstSchemaHasNoMore(t *testing.T) {
	for _, u := range []api.User{
		{Mail: "a@b.c"}, {Mail: "a"}, {Disabled: true}, {Groups: []string{"a"}}, {Groups: []string{""}}, {Groups: make([]string, 7)},
	} {
		u.Name, u.Hash = "a", "1"
		if e := user.Check(1, u); e != api.ErrState {
			t.Errorf("%s: %d", shown(u), e)
		}
		u.Hash = "x"
		if e := user.Check(1, u); e != api.ErrForm {
			t.Errorf("%s: %d", shown(u), e)
		}
		u.Name = "-"
		if e := user.Check(1, u); e != api.ErrName {
			t.Errorf("%s: %d", shown(u), e)
		}
	}
	for _, none := range [][]string{nil, {}, make([]string, 0, 9)} {
		if e := user.Check(1, api.User{Name: "a", Hash: "1", Groups: none}); e != api.OK {
			t.Errorf("no groups: %d", e)
		}
	}
}

func TestP6_1CheckLongParts(t *testing.T) {
	long := strings.Repeat("a", 1<<20)
	for _, c := range []struct {
		u        api.User
		one, two api.Errno
	}{
		{api.User{Name: long, Hash: "1"}, api.ErrName, api.ErrName},
		{api.User{Name: "a", Hash: long}, api.ErrForm, api.ErrForm},
		{api.User{Name: "a", Hash: "1", Mail: "a@b." + long}, api.ErrState, api.ErrMail},
		{api.User{Name: "a", Hash: "1", Groups: []string{"a", long}}, api.ErrState, api.ErrName},
		{api.User{Name: "a", Hash: "1", Groups: strings.Split(long, "")}, api.ErrState, api.ErrFull},
	} {
		if one, two := user.Check(1, c.u), user.Check(2, c.u); one != c.one || two != c.two {
			t.Errorf("%s: %d and %d, not %d and %d", shown(c.u), one, two, c.one, c.two)
		}
	}
}

// Each two neighbours must rise, wherever they stand.
func TestP6_1CheckEachPlaceRises(t *testing.T) {
	for n := 2; n <= api.MaxGroups; n++ {
		for i := 1; i < n; i++ {
			groups := []string{"a", "b", "c", "d", "e", "f"}[:n]
			if e := user.Check(2, api.User{Name: "a", Hash: "1", Groups: groups}); e != api.OK {
				t.Fatalf("%q: %d", groups, e)
			}
			same, turned := slices.Clone(groups), slices.Clone(groups)
			same[i] = same[i-1]
			turned[i], turned[i-1] = turned[i-1], turned[i]
			for _, l := range [][]string{same, turned} {
				if e := user.Check(2, api.User{Name: "a", Hash: "1", Groups: l}); e != api.ErrSame {
					t.Errorf("%q: %d", l, e)
				}
			}
		}
	}
}
