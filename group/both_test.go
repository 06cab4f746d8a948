package group_test

import (
	"runtime"
	"slices"
	"strings"
	"testing"

	"interrex/api"
	"interrex/group"
)

// dice is a row of numbers that look thrown, the same each time.
type dice uint64

func (d *dice) next(n int) int {
	*d = *d*6364136223846793005 + 1442695040888963407
	return int(uint64(*d) >> 33 % uint64(n))
}

// one tells one of some texts.
func (d *dice) one(of []string) string { return of[d.next(len(of))] }

// The groups and names that the deeds below are done with: few, so that they
// meet, but more groups than may be.
var (
	deedGroups = []string{"a", "ab", "a-b", "b", "c", "d", "e", "f"}
	deedNames  = []string{"a", "aa", "a.b", "b", "x", "y"}
)

// pair is that a name is a member of a group.
type pair struct{ group, name string }

// rows is groups told once more in another way: which there are, and who is
// in which, one behind the other as they came.
type rows struct {
	groups []string
	pairs  []pair
}

func (r *rows) clone() *rows { return &rows{slices.Clone(r.groups), slices.Clone(r.pairs)} }

// The deeds, of what names may be.
func (r *rows) make(group string) api.Errno {
	if slices.Contains(r.groups, group) {
		return api.ErrSame
	}
	if len(r.groups) == 6 {
		return api.ErrFull
	}
	r.groups = append(r.groups, group)
	return api.OK
}

func (r *rows) drop(group string) api.Errno {
	i := slices.Index(r.groups, group)
	if i < 0 {
		return api.ErrNone
	}
	r.groups = slices.Delete(r.groups, i, i+1)
	r.pairs = slices.DeleteFunc(r.pairs, func(p pair) bool { return p.group == group })
	return api.OK
}

func (r *rows) join(group, n string) api.Errno {
	if !slices.Contains(r.groups, group) {
		return api.ErrNone
	}
	if slices.Contains(r.pairs, pair{group, n}) {
		return api.ErrSame
	}
	r.pairs = append(r.pairs, pair{group, n})
	return api.OK
}

func (r *rows) leave(group, n string) api.Errno {
	if !slices.Contains(r.groups, group) {
		return api.ErrNone
	}
	i := slices.Index(r.pairs, pair{group, n})
	if i < 0 {
		return api.ErrState
	}
	r.pairs = slices.Delete(r.pairs, i, i+1)
	return api.OK
}

func (r *rows) rename(old, next string) api.Errno {
	isNext := func(p pair) bool { return p.name == next }
	if old != next && slices.ContainsFunc(r.pairs, isNext) {
		return api.ErrSame
	}
	for i := range r.pairs {
		if r.pairs[i].name == old {
			r.pairs[i].name = next
		}
	}
	return api.OK
}

func (r *rows) remove(n string) int {
	was := len(r.pairs)
	r.pairs = slices.DeleteFunc(r.pairs, func(p pair) bool { return p.name == n })
	return was - len(r.pairs)
}

// have is what it has.
func (r *rows) have() have {
	h := have{}
	for _, name := range r.groups {
		h[name] = nil
	}
	for _, p := range r.pairs {
		h[p.group] = append(h[p.group], p.name)
	}
	for name := range h {
		slices.Sort(h[name])
	}
	return h
}

// agree tells whether a name is among the Members of a group just if the group
// is among its Of, as groups themselves tell it.
func agree(t *testing.T, what string, g *group.Groups) {
	t.Helper()
	for _, name := range deedGroups {
		members, e := g.Members(name)
		if slices.Contains(g.All(), name) != (e == api.OK) {
			t.Errorf("%s: All is %q, and Members(%q) tells %d", what, g.All(), name, e)
		}
		for _, n := range append(members, deedNames...) {
			if of := g.Of(n); slices.Contains(members, n) != slices.Contains(of, name) {
				t.Errorf("%s: Members(%q) is %q, and Of(%q) is %q", what, name, members, n, of)
			}
		}
	}
}

// deed does one deed to groups and to their rows, and tells what each
// answered, and of how many groups each removed a name.
func deed(d *dice, g *group.Groups, r *rows) (e, want api.Errno, of, wantOf int) {
	name, n, next := d.one(deedGroups), d.one(deedNames), d.one(deedNames)
	badGroup, badName := d.next(12) == 0, d.next(12) == 0
	if badGroup {
		name = d.one(noNames)
	}
	if badName {
		n = d.one(noNames)
	}
	switch d.next(12) {
	case 0, 1:
		return g.Make(name), expect(badGroup, func() api.Errno { return r.make(name) }), 0, 0
	case 2:
		return g.Drop(name), expect(badGroup, func() api.Errno { return r.drop(name) }), 0, 0
	case 3, 4:
		return g.Leave(name, n), expect(badGroup || badName, func() api.Errno { return r.leave(name, n) }), 0, 0
	case 5:
		return g.Rename(next, n), expect(badName, func() api.Errno { return r.rename(next, n) }), 0, 0
	case 6:
		return g.Rename(n, next), r.rename(n, next), 0, 0
	case 7:
		return api.OK, api.OK, g.Remove(n), r.remove(n)
	}
	return g.Join(name, n), expect(badGroup || badName, func() api.Errno { return r.join(name, n) }), 0, 0
}

// expect is what a deed should tell, which is done just if its names are ones.
func expect(bad bool, deed func() api.Errno) api.Errno {
	if bad {
		return api.ErrName
	}
	return deed()
}

// Many deeds, good and bad ones, each held against the rows: members and
// groups agree, what is refused changes nothing, and copies stay as they were.
func TestP10_3ManyDeeds(t *testing.T) {
	var d dice
	seen := map[api.Errno]int{}
	removed := [api.MaxGroups + 1]int{}
	g, r := group.New(), &rows{}
	for range 20000 {
		was, before := g.Copy(), r.clone().have()
		e, want, of, wantOf := deed(&d, g, r)
		seen[e]++
		is(t, "a deed", e, want)
		if of != wantOf {
			t.Fatalf("removed of %d groups, not of %d", of, wantOf)
		}
		removed[of]++
		holds(t, "behind a deed", g, r.have())
		agree(t, "behind a deed", g)
		holds(t, "a copy ahead of a deed", was, before)
		if e != api.OK {
			holds(t, "what was refused", g, before)
		}
		if t.Failed() {
			return
		}
	}
	for _, e := range []api.Errno{api.OK, api.ErrName, api.ErrSame, api.ErrFull, api.ErrNone, api.ErrState} {
		if seen[e] < 100 {
			t.Error("too few to tell anything of error", e, seen[e])
		}
	}
	if removed[1] < 100 || removed[2] < 100 || removed[3] < 50 {
		t.Error("too few to tell anything of Remove", removed)
	}
}

// What is refused leaves who is in which group.
func TestP10_3WhatIsRefused(t *testing.T) {
	want := six()
	g := some(t, want)
	for what, refused := range map[string]func() bool{
		"Make of no name":           func() bool { return g.Make("Dev") == api.ErrName },
		"Make of one that is there": func() bool { return g.Make("g0") == api.ErrSame },
		"Make of too many":          func() bool { return g.Make("dev") == api.ErrFull },
		"Drop of no name":           func() bool { return g.Drop("G0") == api.ErrName },
		"Drop of none":              func() bool { return g.Drop("ann") == api.ErrNone },
		"Join of no group's name":   func() bool { return g.Join("G0", "bob") == api.ErrName },
		"Join of no name":           func() bool { return g.Join("g0", "Bob") == api.ErrName },
		"Join of no group":          func() bool { return g.Join("dev", "bob") == api.ErrNone },
		"Join of a member":          func() bool { return g.Join("g0", "ann") == api.ErrSame },
		"Leave of no group's name":  func() bool { return g.Leave("G0", "ann") == api.ErrName },
		"Leave of no name":          func() bool { return g.Leave("g0", "Ann") == api.ErrName },
		"Leave of no group":         func() bool { return g.Leave("dev", "ann") == api.ErrNone },
		"Leave of no member":        func() bool { return g.Leave("g0", "n1") == api.ErrState },
		"Rename to no name":         func() bool { return g.Rename("ann", "Ann") == api.ErrName },
		"Rename to a member":        func() bool { return g.Rename("ann", "n0") == api.ErrSame },
		"Rename of none to one":     func() bool { return g.Rename("bob", "ann") == api.ErrSame },
		"Remove of none":            func() bool { return g.Remove("bob") == 0 },
		"Remove of no name":         func() bool { return g.Remove("Ann") == 0 },
	} {
		if !refused() {
			t.Error(what)
		}
		holds(t, what, g, want)
		for _, n := range []string{"bob", "dev", "Ann", "Bob"} {
			if l := g.Of(n); len(l) != 0 {
				t.Errorf("%s: Of(%q) is %q", what, n, l)
			}
		}
	}
}

// Whoever changes an answer, or writes into its spare room, changes neither
// the groups nor another answer.
func TestP10_3AnswersAreNewMemory(t *testing.T) {
	want := have{"dev": {"ann", "bob", "cid"}, "ops": {"ann"}, "top": {"ann"}}
	g := some(t, want)
	for what, ask := range map[string]func() []string{
		"All":     g.All,
		"Of":      func() []string { return g.Of("ann") },
		"Members": func() []string { l, _ := g.Members("dev"); return l },
	} {
		one, two := ask(), ask()
		was := slices.Clone(two)
		for i := range one {
			one[i] = "x"
		}
		_ = append(one[:1], "y", "z")
		_ = append(one, "y", "z")
		if !slices.Equal(two, was) || len(was) != 3 {
			t.Error("two answers share memory:", what, two)
		}
		holds(t, "an answer was changed: "+what, g, want)
	}
}

// What was told stays as it was, whatever is done then.
func TestP10_3AnswersStay(t *testing.T) {
	g := some(t, have{"dev": {"ann", "bob"}, "ops": {"ann"}})
	all, of := g.All(), g.Of("ann")
	members, _ := g.Members("dev")
	g.Rename("ann", "abe")
	g.Join("dev", "aaa")
	g.Drop("ops")
	g.Make("abc")
	if !slices.Equal(all, []string{"dev", "ops"}) || !slices.Equal(of, all) || !slices.Equal(members, []string{"ann", "bob"}) {
		t.Error(all, of, members)
	}
}

// Asking changes nothing.
func TestP10_3AskingChangesNothing(t *testing.T) {
	want := have{"dev": {"ann", "bob"}, "ops": {"ann"}, "top": nil}
	g := some(t, want)
	for _, s := range append([]string{"ann", "cid", "dev", "none"}, noNames...) {
		g.Members(s)
		g.Of(s)
		g.All()
		g.Copy()
	}
	holds(t, "asked", g, want)
}

// room is how much memory is in use.
func room() uint64 {
	var m runtime.MemStats
	runtime.GC()
	runtime.ReadMemStats(&m)
	return m.HeapAlloc
}

// cut is a name that is a piece of a long text.
func cut(n string) string { return (n + strings.Repeat(" ", 1<<24))[:len(n)] }

// Of the long text that a name is a piece of nothing stays.
func TestP10_3WhatIsHandedInIsNotKept(t *testing.T) {
	g := group.New()
	was := room()
	is(t, "Make", g.Make(cut("dev")), api.OK)
	is(t, "Join", g.Join("dev", cut("ann")), api.OK)
	is(t, "Join", g.Join(cut("dev"), "bob"), api.OK)
	is(t, "Rename", g.Rename("bob", cut("cid")), api.OK)
	is(t, "Rename to itself", g.Rename("ann", cut("ann")), api.OK)
	if now := room(); now > was+1<<23 {
		t.Error("so much more is in use:", now-was)
	}
	holds(t, "pieces", g, have{"dev": {"ann", "cid"}})
}
