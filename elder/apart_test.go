package elder_test

import (
	"runtime"
	"slices"
	"strings"
	"testing"

	"interrex/api"
	"interrex/elder"
	"interrex/user"
)

// The list that is handed in stays as it is, its spare room too, and so does
// the directory when the list is changed.
func TestP7_3WhatIsHandedIn(t *testing.T) {
	groups := []string{"x"}
	room := []api.User{{Name: "ann", Hash: "1", Groups: groups[:0]}, {Name: "bob", Hash: "2"}, {Name: "spare", Hash: "3"}}
	was := slices.Clone(room)
	d, e := elder.Of(room[:2])
	if d == nil || e != api.OK {
		t.Fatal(e)
	}
	d.Create("cid", "4")
	d.SetHash("ann", "5")
	d.Delete("bob")
	if !slices.EqualFunc(room, was, user.Same) || groups[0] != "x" {
		t.Error("what was handed in is changed", room, groups)
	}
	room[0] = api.User{Name: "zoe", Hash: "9"}
	holds(t, "the list was changed", d, []api.User{{Name: "ann", Hash: "5"}, {Name: "cid", Hash: "4"}})
}

// A list that is refused stays, too.
func TestP7_3WhatIsHandedInAndRefused(t *testing.T) {
	for _, l := range [][]api.User{
		{{Name: "b", Hash: "1"}, {Name: "a", Hash: "1"}, {Name: "spare"}},
		{{Name: "b", Hash: "1"}, {Name: "A", Groups: []string{"z", "a"}}, {Name: "spare"}},
	} {
		was := slices.Clone(l)
		elder.Of(l[:2])
		if !slices.EqualFunc(l, was, user.Same) {
			t.Error("changed", l, was)
		}
	}
	l := people(api.MaxUsers + 3)
	elder.Of(l[:api.MaxUsers+1])
	if !slices.EqualFunc(l, people(api.MaxUsers+3), user.Same) {
		t.Error("changed", l)
	}
}

// Whoever changes an answer, or writes into its spare room, changes neither
// the directory nor another answer.
func TestP7_3AnswersAreNewMemory(t *testing.T) {
	d := some(t, "ann", "bob", "cid")
	want := []api.User{{Name: "ann", Hash: "1"}, {Name: "bob", Hash: "2"}, {Name: "cid", Hash: "3"}}
	one, two := d.All(), d.All()
	for i := range one {
		one[i] = api.User{Name: "x", Hash: "9", Groups: []string{"g"}}
	}
	_ = append(one[:1], api.User{Name: "y"})
	if !slices.EqualFunc(two, want, user.Same) {
		t.Error("two answers of All share memory", two)
	}
	holds(t, "an answer of All was changed", d, want)
	first, _ := d.List("")
	second, _ := d.List("")
	for i := range first {
		first[i] = "x"
	}
	_ = append(first[:0], "y", "z")
	if !slices.Equal(second, []string{"ann", "bob", "cid"}) {
		t.Error("two answers of List share memory", second)
	}
	holds(t, "an answer of List was changed", d, want)
}

// What was told stays as it was, whatever is done then.
func TestP7_3AnswersStay(t *testing.T) {
	d := some(t, "ann", "bob")
	all, c := d.All(), d.Copy()
	names, _ := d.List("")
	hash, _ := d.Lookup("ann")
	d.SetHash("ann", "7")
	d.Delete("bob")
	d.Create("abe", "8")
	if shown(all) != shown(c.All()) || hash != "1" || !slices.Equal(names, []string{"ann", "bob"}) {
		t.Error(all, names, hash)
	}
}

// Asking changes nothing.
func TestP7_3AskingChangesNothing(t *testing.T) {
	d := some(t, "ann", "bob")
	was := d.All()
	for _, s := range append([]string{"ann", "cid", "a", "-"}, noNames...) {
		d.Lookup(s)
		d.List(s)
		d.Copy()
		d.Len()
		d.All()
	}
	holds(t, "asked", d, was)
}

// dice is a row of numbers that look thrown, the same each time.
type dice uint64

func (d *dice) next(n int) int {
	*d = *d*6364136223846793005 + 1442695040888963407
	return int(uint64(*d) >> 33 % uint64(n))
}

// one tells one of some texts.
func (d *dice) one(of []string) string { return of[d.next(len(of))] }

// rows is a directory told once more in another way: users in a row that rises.
type rows []api.User

// find tells where a name stands, or would.
func (r rows) find(n string) (int, bool) {
	return slices.BinarySearchFunc(r, n, func(u api.User, n string) int { return strings.Compare(u.Name, n) })
}

// create, remove and set are the deeds, of what names and sums may be.
func (r *rows) create(n, hash string) api.Errno {
	i, found := r.find(n)
	if found {
		return api.ErrSame
	}
	if len(*r) == 12 {
		return api.ErrFull
	}
	*r = slices.Insert(*r, i, api.User{Name: n, Hash: hash})
	return api.OK
}

func (r *rows) remove(n string) api.Errno {
	i, found := r.find(n)
	if !found {
		return api.ErrNone
	}
	*r = slices.Delete(*r, i, i+1)
	return api.OK
}

func (r *rows) set(n, hash string) api.Errno {
	i, found := r.find(n)
	if !found {
		return api.ErrNone
	}
	(*r)[i].Hash = hash
	return api.OK
}

// room is how much memory is in use.
func room() uint64 {
	var m runtime.MemStats
	runtime.GC()
	runtime.ReadMemStats(&m)
	return m.HeapAlloc
}

// cut is a text that is a piece of a long one.
func cut(s string) string { return (s + strings.Repeat(" ", 1<<24))[:len(s)] }

// Of the long text that a text is a piece of nothing stays.
func TestP7_3WhatIsHandedInIsNotKept(t *testing.T) {
	was := room()
	d, e := elder.Of([]api.User{{Name: cut("ann"), Hash: cut("1")}})
	is(t, "Of", e, api.OK)
	is(t, "Create", d.Create(cut("bob"), cut("2")), api.OK)
	is(t, "SetHash", d.SetHash(cut("ann"), cut("3")), api.OK)
	is(t, "Create", d.Create("cid", "4"), api.OK)
	is(t, "Delete", d.Delete(cut("cid")), api.OK)
	if now := room(); now > was+1<<23 {
		t.Error("so much more is in use:", now-was)
	}
	holds(t, "pieces", d, []api.User{{Name: "ann", Hash: "3"}, {Name: "bob", Hash: "2"}})
}

// Many deeds, good and bad ones, each held against the rows; what is refused
// changes nothing, and copies stay as they were.
func TestP7_3ManyDeeds(t *testing.T) {
	var d dice
	names := []string{"a", "ab", "a-b", "a.b", "a0", "b", "b9", "c", "d", "e", "f", "g", "h", "i", "j", "abcdefghijkl"}
	seen := map[api.Errno]int{}
	dir, model := elder.New(), rows{}
	for range 20000 {
		n, hash := d.one(names), d.one([]string{"0", "1", "ff", "0123456789ab"})
		badName, badSum := d.next(12) == 0, d.next(12) == 0
		if badName {
			n = d.one(noNames)
		}
		if badSum {
			hash = d.one(noSums)
		}
		was := dir.Copy()
		before := slices.Clone(model)
		var e, want api.Errno
		kind := d.next(7)
		switch {
		case kind < 4:
			e = dir.Create(n, hash)
			want = expect(badName, badSum, func() api.Errno { return model.create(n, hash) })
		case kind < 5:
			e = dir.Delete(n)
			want = expect(badName, false, func() api.Errno { return model.remove(n) })
		default:
			e = dir.SetHash(n, hash)
			want = expect(badName, badSum, func() api.Errno { return model.set(n, hash) })
		}
		seen[e]++
		is(t, "deed "+n+" "+hash, e, want)
		holds(t, "behind a deed", dir, model)
		holds(t, "a copy ahead of a deed", was, before)
		if t.Failed() {
			return
		}
	}
	for _, e := range []api.Errno{api.OK, api.ErrName, api.ErrForm, api.ErrSame, api.ErrFull, api.ErrNone} {
		if seen[e] < 100 {
			t.Error("too few to tell anything of error", e, seen[e])
		}
	}
}

// expect is what a deed should tell, which is done just if its parts may be.
func expect(badName, badSum bool, deed func() api.Errno) api.Errno {
	if badName {
		return api.ErrName
	}
	if badSum {
		return api.ErrForm
	}
	return deed()
}
