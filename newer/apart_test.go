package newer_test

import (
	"runtime"
	"slices"
	"strings"
	"testing"

	"interrex/api"
	"interrex/newer"
	"interrex/user"
)

// What is done to one user changes no other one.
func TestP11_4NoOtherOne(t *testing.T) {
	for what, deed := range map[string]func(d *newer.Dir) api.Errno{
		"Create":              func(d *newer.Dir) api.Errno { return d.Create("b", "9") },
		"Delete":              func(d *newer.Dir) api.Errno { return d.Delete("bb") },
		"SetHash":             func(d *newer.Dir) api.Errno { return d.SetHash("bb", "9") },
		"SetMail":             func(d *newer.Dir) api.Errno { return d.SetMail("bb", "z@b.c") },
		"SetMail to none":     func(d *newer.Dir) api.Errno { return d.SetMail("bb", "") },
		"Disable":             func(d *newer.Dir) api.Errno { return d.Disable("bb", true) },
		"Rename":              func(d *newer.Dir) api.Errno { return d.Rename("bb", "zz") },
		"Rename ahead of all": func(d *newer.Dir) api.Errno { return d.Rename("bb", "a") },
		"Join":                func(d *newer.Dir) api.Errno { return d.Join("ops", "bb") },
		"Leave":               func(d *newer.Dir) api.Errno { return d.Leave("dev", "bb") },
	} {
		others := []api.User{
			{Name: "ann", Hash: "1", Mail: "a@b.c", Groups: []string{"dev", "ops"}},
			{Name: "bbb", Hash: "2", Mail: "bbb@b.c", Disabled: true, Groups: []string{"dev"}},
			{Name: "cid", Hash: "2", Mail: "cid@b.c", Groups: []string{"bb"}},
		}
		d := some(t, slices.Insert(slices.Clone(others), 1, api.User{Name: "bb", Hash: "2", Mail: "b@b.c", Groups: []string{"dev"}}), []string{"bb", "dev", "ops"})
		is(t, what, deed(d), api.OK)
		for _, u := range others {
			if v, e := d.Lookup(u.Name); !user.Same(u, v) || e != api.OK {
				t.Errorf("%s: %s, %d, not %s", what, shown([]api.User{v}), e, shown([]api.User{u}))
			}
		}
		if l := d.Groups(); !slices.Equal(l, []string{"bb", "dev", "ops"}) {
			t.Errorf("%s: Groups is %q", what, l)
		}
	}
}

// What is refused leaves all as it was.
func TestP11_4WhatIsRefused(t *testing.T) {
	l, groups := people(api.MaxUsers), named(api.MaxGroups)
	l[0].Mail, l[1].Mail, l[1].Disabled = "a@b.c", "b@b.c", true
	l[0].Groups, l[1].Groups = groups[:1], groups
	d := some(t, l, groups)
	a, b, g, h := l[0].Name, l[1].Name, groups[0], groups[1]
	for what, refused := range map[string]func() bool{
		"Create": func() bool {
			return d.Create("A", "1") == api.ErrName && d.Create("a", "g") == api.ErrForm && d.Create(a, "9") == api.ErrSame && d.Create("a", "1") == api.ErrFull
		},
		"Delete": func() bool {
			return d.Delete("A") == api.ErrName && d.Delete("a") == api.ErrNone && d.Delete(g) == api.ErrNone
		},
		"SetHash": func() bool {
			return d.SetHash("A", "9") == api.ErrName && d.SetHash(a, "g") == api.ErrForm && d.SetHash("a", "9") == api.ErrNone && d.SetHash(b, "9") == api.ErrState
		},
		"SetMail": func() bool {
			return d.SetMail("A", "z@b.c") == api.ErrName && d.SetMail(a, "?") == api.ErrMail && d.SetMail("a", "z@b.c") == api.ErrNone && d.SetMail(a, "b@b.c") == api.ErrSame
		},
		"SetMail to none": func() bool { return d.SetMail("A", "") == api.ErrName && d.SetMail("a", "") == api.ErrNone },
		"Disable": func() bool {
			return d.Disable("A", true) == api.ErrName && d.Disable("a", true) == api.ErrNone && d.Disable(b, true) == api.ErrState && d.Disable(a, false) == api.ErrState
		},
		"Rename": func() bool {
			return d.Rename(a, "A") == api.ErrName && d.Rename("a", "z") == api.ErrNone && d.Rename(a, b) == api.ErrSame && d.Rename(a, a) == api.ErrSame
		},
		"MakeGroup": func() bool {
			return d.MakeGroup("A") == api.ErrName && d.MakeGroup(g) == api.ErrSame && d.MakeGroup("a") == api.ErrFull
		},
		"DropGroup": func() bool {
			return d.DropGroup("A") == api.ErrName && d.DropGroup("a") == api.ErrNone && d.DropGroup(a) == api.ErrNone
		},
		"Join": func() bool {
			return d.Join(h, "A") == api.ErrName && d.Join("A", a) == api.ErrName && d.Join(h, "a") == api.ErrNone && d.Join("a", a) == api.ErrNone && d.Join(g, a) == api.ErrSame
		},
		"Leave": func() bool {
			return d.Leave(h, "A") == api.ErrName && d.Leave("A", a) == api.ErrName && d.Leave(h, "a") == api.ErrNone && d.Leave("a", a) == api.ErrNone && d.Leave(h, a) == api.ErrState
		},
	} {
		if !refused() {
			t.Error(what)
		}
		holds(t, what, d, l, groups)
	}
	_, e := d.Find("z@b.c")
	is(t, "an address that was refused", e, api.ErrNone)
}

// The lists that are handed in stay as they are, their spare room too, and so
// does the directory when the lists are changed.
func TestP11_4WhatIsHandedIn(t *testing.T) {
	of := []string{"dev", "ops", "spare"}
	groups := []string{"dev", "ops", "top", "spare"}
	room := []api.User{{Name: "ann", Hash: "1", Mail: "a@b.c", Groups: of[:2]}, {Name: "bob", Hash: "2", Groups: of[:1]}, {Name: "spare", Hash: "3"}}
	was, wasGroups, wasOf := slices.Clone(room), slices.Clone(groups), slices.Clone(of)
	d := some(t, room[:2], groups[:3])
	d.Create("cid", "4")
	d.SetHash("ann", "5")
	d.Join("top", "ann")
	d.Leave("dev", "ann")
	d.MakeGroup("all")
	d.Delete("bob")
	if !slices.EqualFunc(room, was, user.Same) || !slices.Equal(groups, wasGroups) || !slices.Equal(of, wasOf) {
		t.Error("what was handed in is changed", shown(room), groups, of)
	}
	room[0], groups[0], of[0], of[1] = api.User{Name: "zoe", Hash: "9"}, "x", "y", "z"
	holds(t, "the lists were changed", d, []api.User{{Name: "ann", Hash: "5", Mail: "a@b.c", Groups: []string{"ops", "top"}}, {Name: "cid", Hash: "4"}}, []string{"all", "dev", "ops", "top"})
}

// Lists that are refused stay, too.
func TestP11_4WhatIsHandedInAndRefused(t *testing.T) {
	for _, u := range [][]api.User{
		{{Name: "b", Hash: "1"}, {Name: "a", Hash: "1"}, {Name: "spare"}},
		{{Name: "b", Hash: "1"}, {Name: "c", Hash: "1", Groups: []string{"z", "a"}}, {Name: "spare"}},
		{{Name: "b", Hash: "1", Mail: "A@b.c"}, {Name: "c", Hash: "1"}, {Name: "spare"}},
		{{Name: "b", Hash: "1", Groups: []string{"none"}}, {Name: "c", Hash: "1"}, {Name: "spare"}},
	} {
		for _, groups := range [][]string{{"b", "a", "spare"}, {"A", "b", "spare"}, {"a", "b", "spare"}} {
			was, wasGroups := slices.Clone(u), slices.Clone(groups)
			for i := range was {
				was[i] = user.Clone(was[i])
			}
			if d, e := newer.Of(u[:2], groups[:2]); d != nil || e == api.OK {
				t.Error("not refused", shown(u), groups)
			}
			if !slices.EqualFunc(u, was, user.Same) || !slices.Equal(groups, wasGroups) {
				t.Error("changed", shown(u), groups)
			}
		}
	}
}

// Whoever changes an answer, or writes into its spare room, changes neither
// the directory nor another answer.
func TestP11_4NamesAreNewMemory(t *testing.T) {
	l, groups := called("ann", "bob", "cid"), []string{"dev", "ops", "top"}
	for i := range l {
		l[i].Groups = groups
	}
	d := some(t, l, groups)
	for what, ask := range map[string]func() []string{
		"Groups":  d.Groups,
		"List":    func() []string { l, _ := d.List(""); return l },
		"Members": func() []string { l, _ := d.Members("dev"); return l },
		"Lookup":  func() []string { u, _ := d.Lookup("ann"); return u.Groups },
		"All":     func() []string { return d.All()[0].Groups },
	} {
		one, two := ask(), ask()
		was := slices.Clone(two)
		for i := range one {
			one[i] = "x"
		}
		_ = append(one[:1], "y", "z")
		_ = append(one, "y", "z")
		if !slices.Equal(two, was) || len(was) != 3 {
			t.Error("two answers share memory:", what, two)
		}
		holds(t, "an answer was changed: "+what, d, l, groups)
	}
}

// No two lists of one answer share memory, nor do two answers.
func TestP11_4AllIsNewMemory(t *testing.T) {
	l, groups := called("ann", "bob", "cid"), []string{"dev", "ops"}
	for i := range l {
		l[i].Groups = groups
	}
	d := some(t, l, groups)
	one, two := d.All(), d.All()
	one[0].Groups[0] = "x"
	_ = append(one[1].Groups, "y")
	if !slices.EqualFunc(one[1:], l[1:], user.Same) {
		t.Error("lists of one answer share memory", shown(one))
	}
	for i := range one {
		one[i] = api.User{Name: "x", Hash: "9"}
	}
	_ = append(one[:1], api.User{Name: "y"})
	if !slices.EqualFunc(two, l, user.Same) {
		t.Error("two answers share memory", shown(two))
	}
	holds(t, "an answer was changed", d, l, groups)
}

// What was told stays as it was, whatever is done then.
func TestP11_4AnswersStay(t *testing.T) {
	l, groups := three()
	d := some(t, l, groups)
	all, told := d.All(), d.Groups()
	ann, _ := d.Lookup("ann")
	names, _ := d.List("")
	members, _ := d.Members("dev")
	d.Leave("dev", "ann")
	d.Join("top", "ann")
	d.SetMail("ann", "z@b.c")
	d.Rename("ann", "zoe")
	d.Delete("bob")
	d.Create("abe", "8")
	d.DropGroup("dev")
	d.MakeGroup("all")
	if !slices.EqualFunc(all, l, user.Same) || !slices.Equal(told, groups) || !user.Same(ann, l[0]) {
		t.Error(shown(all), told, shown([]api.User{ann}))
	}
	if !slices.Equal(names, []string{"ann", "bob", "cid"}) || !slices.Equal(members, []string{"ann", "bob"}) {
		t.Error(names, members)
	}
}

// Asking changes nothing.
func TestP11_4AskingChangesNothing(t *testing.T) {
	l, groups := three()
	d := some(t, l, groups)
	asked := slices.Concat([]string{"ann", "cid", "a", "-", "dev", "none", "a@b.c", "A@b.c", "z@b.c"}, noNames, noMails)
	for _, s := range asked {
		d.Lookup(s)
		d.Find(s)
		d.List(s)
		d.Members(s)
		d.Len()
		d.All()
		d.Groups()
		d.Copy()
	}
	holds(t, "asked", d, l, groups)
}

// room is how much memory is in use.
func room() uint64 {
	var m runtime.MemStats
	runtime.GC()
	runtime.ReadMemStats(&m)
	return m.HeapAlloc
}

// cut is a text that is a piece of a long one.
func cut(s string) string { return (s + strings.Repeat(" ", 1<<24))[:len(s)] }

// Of the long text that a text is a piece of nothing stays.
func TestP11_4WhatIsHandedInIsNotKept(t *testing.T) {
	d := some(t, []api.User{{Name: cut("ann"), Hash: cut("1"), Mail: cut("a@b.c"), Groups: []string{cut("dev")}}}, []string{cut("dev")})
	was := room()
	for i, e := range []api.Errno{
		d.Create(cut("bob"), cut("2")), d.SetHash(cut("ann"), cut("3")), d.SetMail(cut("bob"), cut("b@b.c")), d.SetMail(cut("ann"), cut("aa@b.c")),
		d.Disable(cut("bob"), true), d.Rename(cut("ann"), cut("cid")), d.MakeGroup(cut("ops")), d.Join(cut("ops"), cut("bob")), d.Join(cut("ops"), cut("cid")),
		d.Leave(cut("ops"), cut("bob")), d.MakeGroup("top"), d.DropGroup(cut("top")), d.Create("dan", "4"), d.Delete(cut("dan")),
	} {
		if e != api.OK {
			t.Error(i, e)
		}
	}
	if now := room(); now > was+1<<23 {
		t.Error("so much more is in use:", now-was)
	}
	holds(t, "pieces", d, []api.User{{Name: "bob", Hash: "2", Mail: "b@b.c", Disabled: true}, {Name: "cid", Hash: "3", Mail: "aa@b.c", Groups: []string{"dev", "ops"}}}, []string{"dev", "ops"})
}

// Nor does anything stay of what Of is handed.
func TestP11_4WhatOfIsHandedIsNotKept(t *testing.T) {
	was := room()
	l := []api.User{{Name: cut("ann"), Hash: cut("1"), Mail: cut("a@b.c"), Groups: []string{cut("dev")}}}
	d := some(t, l, []string{cut("dev")})
	l = nil
	if now := room(); now > was+1<<23 {
		t.Error("so much more is in use:", now-was)
	}
	holds(t, "pieces", d, []api.User{{Name: "ann", Hash: "1", Mail: "a@b.c", Groups: []string{"dev"}}}, []string{"dev"})
}
