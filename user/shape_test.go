package user_test

import (
	"slices"
	"testing"

	"interrex/api"
	"interrex/octet"
	"interrex/user"
)

func TestP6_2Same(t *testing.T) {
	users := []api.User{
		{},
		{Name: "a"}, {Hash: "a"}, {Mail: "a"}, {Disabled: true}, {Groups: []string{"a"}}, {Groups: []string{""}},
		{Groups: []string{"", ""}}, {Groups: []string{"a", ""}}, {Groups: []string{"", "a"}},
		{Name: "a", Hash: "b"}, {Name: "ab"}, {Name: "A"}, {Name: "a\x00"},
		{Name: "a", Hash: "b", Mail: "c"}, {Name: "a", Hash: "b", Mail: "c", Disabled: true},
		{Name: "a", Hash: "b", Mail: "c", Groups: []string{"d"}}, {Name: "a", Hash: "b", Mail: "C", Groups: []string{"d"}},
		{Name: "a", Hash: "b", Mail: "c", Groups: []string{"d", "e"}}, {Name: "a", Hash: "b", Mail: "c", Groups: []string{"e", "d"}},
		{Name: "a", Hash: "b", Mail: "c", Disabled: true, Groups: []string{"d", "e"}}, {Name: "a", Hash: "b", Mail: "c", Groups: []string{"de"}},
		{Name: "x", Hash: "b", Mail: "c", Groups: []string{"d", "e"}}, {Name: "a", Hash: "x", Mail: "c", Groups: []string{"d", "e"}},
		full(),
	}
	for i, a := range users {
		for j, b := range users {
			b.Groups = append([]string{}, b.Groups...)
			if is := user.Same(a, b); is != (i == j) {
				t.Errorf("%s, %s: %v", shown(a), shown(b), is)
			}
		}
	}
}

// No groups are no groups, nil or empty, with spare room or without.
func TestP6_2SameOfNoGroups(t *testing.T) {
	none := [][]string{nil, {}, make([]string, 0, 5)}
	for _, a := range none {
		for _, b := range none {
			if !user.Same(api.User{Name: "a", Groups: a}, api.User{Name: "a", Groups: b}) {
				t.Error(a == nil, b == nil)
			}
		}
	}
}

func TestP6_2Clone(t *testing.T) {
	for _, u := range []api.User{
		{}, {Name: "a", Hash: "1"}, {Name: "A", Hash: "?", Mail: "!"}, {Disabled: true}, {Groups: []string{}},
		{Groups: []string{"b", "a", "b", ""}}, {Groups: make([]string, 1000)}, full(),
	} {
		if c := user.Clone(u); !same(u, c) {
			t.Errorf("%s: %s", shown(u), shown(c))
		}
	}
}

// Neither changes what the other one has, nor writes into its spare room.
func TestP6_3CloneIsNewMemory(t *testing.T) {
	room := []string{"a", "b", "c", "d"}
	u := api.User{Name: "n", Hash: "1", Groups: room[:2]}
	c := user.Clone(u)
	d := user.Clone(c)
	c.Groups[0] = "x"
	_ = append(c.Groups, "y")
	if !slices.Equal(room, []string{"a", "b", "c", "d"}) || !slices.Equal(d.Groups, []string{"a", "b"}) {
		t.Error("a clone is the same memory", room, d.Groups)
	}
	room[1] = "z"
	if c.Groups[1] != "b" || d.Groups[1] != "b" {
		t.Error("what was handed in is kept", c.Groups, d.Groups)
	}
	none := user.Clone(api.User{Groups: room[:0]})
	_ = append(none.Groups, "y")
	if room[0] != "a" {
		t.Error("a clone of no groups has spare room of what was handed in", room)
	}
}

func TestP6_2Up(t *testing.T) {
	for _, u := range []api.User{
		{}, {Name: "a", Hash: "1"}, {Name: "A", Hash: "?"}, {Name: "a"}, {Hash: "1"}, full(),
		{Name: "a", Hash: "1", Mail: "a@b.c"}, {Name: "a", Hash: "1", Disabled: true}, {Name: "a", Hash: "1", Groups: []string{"x"}},
	} {
		up := user.Up(u)
		if up.Name != u.Name || up.Hash != u.Hash || up.Mail != "" || up.Disabled || len(up.Groups) != 0 {
			t.Errorf("%s: %s", shown(u), shown(up))
		}
		if again := user.Up(up); !same(up, again) {
			t.Errorf("%s, taken up again: %s", shown(up), shown(again))
		}
	}
}

// A user that may be of the first schema may be of the second one, taken up.
func TestP6_2UpMayBe(t *testing.T) {
	eachUser(func(u api.User, one, _ api.Errno) {
		if e := user.Check(2, user.Up(u)); one == api.OK && e != api.OK {
			t.Errorf("%s: %d", shown(u), e)
		}
	})
}

func TestP6_2In(t *testing.T) {
	u := api.User{Name: "ann", Hash: "1", Mail: "ann@x.org", Groups: []string{"dev", "dev-a", "ops"}}
	for group, want := range map[string]bool{
		"dev": true, "dev-a": true, "ops": true,
		"": false, "de": false, "dev-": false, "dev-b": false, "Dev": false, "opss": false, "ann": false, "1": false, "ann@x.org": false, "ops\x00": false,
	} {
		if is := user.In(u, group); is != want {
			t.Errorf("%q: %v", group, is)
		}
	}
	for _, g := range full().Groups {
		if !user.In(full(), g) {
			t.Errorf("%q isn't found", g)
		}
	}
	if user.In(api.User{}, "") || user.In(api.User{Groups: []string{}}, "") || user.In(api.User{Name: "a"}, "a") {
		t.Error("in a group without groups")
	}
}

// Groups of a user that may not be are looked through, too: they needn't rise.
func TestP6_2InAnyGroups(t *testing.T) {
	u := api.User{Groups: []string{"z", "", "a", "B", "m"}}
	for _, g := range u.Groups {
		if !user.In(u, g) {
			t.Errorf("%q isn't found", g)
		}
	}
	if user.In(u, "b") || user.In(u, "y") {
		t.Error("found what isn't there")
	}
}

func TestP6_3NothingIsChanged(t *testing.T) {
	for _, groups := range [][]string{{"a", "b", "c", "spare"}, {"b", "a", "a", "spare"}, {"", "B", "a", "spare"}} {
		was := slices.Clone(groups)
		u := api.User{Name: "a", Hash: "1", Mail: "a@b.c", Groups: groups[:3]}
		var w octet.Writer
		for schema := range 4 {
			user.Check(schema, u)
			user.Put(&w, schema, u)
		}
		user.Same(u, u)
		user.Clone(u)
		user.Up(u)
		user.In(u, "b")
		if !slices.Equal(groups, was) {
			t.Errorf("%q was %q", groups, was)
		}
	}
}

// What was written stays, whatever becomes of the user; what was read is apart
// from what else is read of the same bytes.
func TestP6_3NothingIsKept(t *testing.T) {
	u := full()
	var w octet.Writer
	user.Put(&w, 2, u)
	u.Groups[0] = "x"
	b := w.Bytes()
	one, two := user.Get(octet.Of(b), 2), user.Get(octet.Of(b), 2)
	if !same(one, full()) {
		t.Error("what was handed in is kept", one)
	}
	one.Groups[1] = "y"
	if !same(two, full()) {
		t.Error("two users of the same bytes share memory", two)
	}
}
