package elder_test

import (
	"fmt"
	"slices"
	"strings"
	"testing"

	"interrex/api"
	"interrex/elder"
)

// is tells whether an error is the one that was wanted.
func is(t *testing.T, what string, e, want api.Errno) {
	t.Helper()
	if e != want {
		t.Errorf("%s: error %d, not %d", what, e, want)
	}
}

func TestP7_2ListExample(t *testing.T) {
	d := elder.New()
	is(t, "bob", d.Create("bob", "1"), api.OK)
	is(t, "ann", d.Create("ann", "2"), api.OK)
	if l, e := d.List(""); !slices.Equal(l, []string{"ann", "bob"}) || e != api.OK {
		t.Error(l, e)
	}
}

func TestP7_2Create(t *testing.T) {
	d := elder.New()
	is(t, "the shortest one", d.Create("m", "0"), api.OK)
	is(t, "the longest one", d.Create("abcdefghijkl", "0123456789ab"), api.OK)
	is(t, "a beginning of another one", d.Create("abc", "0"), api.OK)
	holds(t, "three", d, []api.User{{Name: "abc", Hash: "0"}, {Name: "abcdefghijkl", Hash: "0123456789ab"}, {Name: "m", Hash: "0"}})
}

func TestP7_2CreateWhatMayNotBe(t *testing.T) {
	d := some(t, "ann", "bob")
	was := d.All()
	for _, n := range noNames {
		is(t, fmt.Sprintf("name %.20q", n), d.Create(n, "1"), api.ErrName)
	}
	for _, h := range noSums {
		is(t, fmt.Sprintf("sum %.20q", h), d.Create("cid", h), api.ErrForm)
		is(t, fmt.Sprintf("sum %.20q of one that is there", h), d.Create("ann", h), api.ErrForm)
	}
	is(t, "the same sum", d.Create("ann", "1"), api.ErrSame)
	is(t, "another sum", d.Create("bob", "9"), api.ErrSame)
	holds(t, "two", d, was)
}

// There is room for just MaxUsers, and again once one is gone.
func TestP7_2CreateFull(t *testing.T) {
	l := people(api.MaxUsers + 1)
	d := elder.New()
	for i, u := range l[:api.MaxUsers] {
		is(t, fmt.Sprint(i), d.Create(u.Name, u.Hash), api.OK)
	}
	holds(t, "a full one", d, l[:api.MaxUsers])
	is(t, "one more", d.Create(l[api.MaxUsers].Name, "1"), api.ErrFull)
	is(t, "one more, ahead of all", d.Create("a", "1"), api.ErrFull)
	holds(t, "a full one, asked for more", d, l[:api.MaxUsers])
	is(t, "another sum in a full one", d.SetHash(l[0].Name, l[0].Hash), api.OK)
	is(t, "one less", d.Delete(l[0].Name), api.OK)
	is(t, "one more again", d.Create(l[api.MaxUsers].Name, l[api.MaxUsers].Hash), api.OK)
	holds(t, "full again", d, l[1:])
	is(t, "one more than full again", d.Create(l[0].Name, "1"), api.ErrFull)
	full, e := elder.Of(l[1:])
	is(t, "Of", e, api.OK)
	is(t, "one more than was handed in", full.Create("a", "1"), api.ErrFull)
	is(t, "one more than was copied", full.Copy().Create("a", "1"), api.ErrFull)
}

// Of the errors of a full directory, ErrFull comes last.
func TestP7_2CreateTheOrderOfErrors(t *testing.T) {
	d, _ := elder.Of(people(api.MaxUsers))
	is(t, "no name, no sum, full", d.Create("A", "g"), api.ErrName)
	is(t, "no name, full", d.Create("A", "1"), api.ErrName)
	is(t, "no sum, there already, full", d.Create("n000000", "g"), api.ErrForm)
	is(t, "no sum, full", d.Create("a", "g"), api.ErrForm)
	is(t, "there already, full", d.Create("n000000", "1"), api.ErrSame)
	is(t, "full", d.Create("a", "1"), api.ErrFull)
	holds(t, "a full one", d, people(api.MaxUsers))
}

func TestP7_2Delete(t *testing.T) {
	d := some(t, "ann", "ann-b", "bob")
	was := d.All()
	for _, n := range noNames {
		is(t, fmt.Sprintf("%.20q", n), d.Delete(n), api.ErrName)
	}
	for _, n := range []string{"an", "anna", "ann-c", "c", "abcdefghijkl"} {
		is(t, n, d.Delete(n), api.ErrNone)
	}
	holds(t, "three", d, was)
	is(t, "ann", d.Delete("ann"), api.OK)
	holds(t, "without ann", d, was[1:])
	is(t, "ann, twice", d.Delete("ann"), api.ErrNone)
	_, e := d.Lookup("ann")
	is(t, "Lookup of ann", e, api.ErrNone)
	is(t, "SetHash of ann", d.SetHash("ann", "1"), api.ErrNone)
	is(t, "bob", d.Delete("bob"), api.OK)
	is(t, "ann-b", d.Delete("ann-b"), api.OK)
	holds(t, "without anybody", d, nil)
	is(t, "ann again", d.Create("ann", "7"), api.OK)
	holds(t, "ann again", d, []api.User{{Name: "ann", Hash: "7"}})
}

func TestP7_2SetHash(t *testing.T) {
	d := some(t, "ann", "bob")
	was := d.All()
	for _, n := range noNames {
		is(t, fmt.Sprintf("name %.20q", n), d.SetHash(n, "1"), api.ErrName)
		is(t, fmt.Sprintf("name %.20q, no sum", n), d.SetHash(n, "g"), api.ErrName)
	}
	for _, h := range noSums {
		is(t, fmt.Sprintf("sum %.20q", h), d.SetHash("ann", h), api.ErrForm)
		is(t, fmt.Sprintf("sum %.20q of none", h), d.SetHash("cid", h), api.ErrForm)
	}
	is(t, "of none", d.SetHash("cid", "1"), api.ErrNone)
	holds(t, "two", d, was)
	is(t, "ann", d.SetHash("ann", "0123456789ab"), api.OK)
	holds(t, "another sum", d, []api.User{{Name: "ann", Hash: "0123456789ab"}, {Name: "bob", Hash: "2"}})
	is(t, "the same sum", d.SetHash("bob", "2"), api.OK)
	is(t, "the other's sum", d.SetHash("ann", "2"), api.OK)
	holds(t, "the same sums", d, []api.User{{Name: "ann", Hash: "2"}, {Name: "bob", Hash: "2"}})
}

func TestP7_2Lookup(t *testing.T) {
	d := some(t, "ann", "bob")
	for _, c := range []struct {
		n, hash string
		e       api.Errno
	}{
		{"ann", "1", api.OK}, {"bob", "2", api.OK},
		{"an", "", api.ErrNone}, {"anna", "", api.ErrNone}, {"c", "", api.ErrNone}, {"abcdefghijkl", "", api.ErrNone},
	} {
		if h, e := d.Lookup(c.n); h != c.hash || e != c.e {
			t.Errorf("%q: %q, %d", c.n, h, e)
		}
	}
	for _, n := range noNames {
		if h, e := d.Lookup(n); h != "" || e != api.ErrName {
			t.Errorf("%.20q: %q, %d", n, h, e)
		}
	}
}

func TestP7_2List(t *testing.T) {
	d := some(t, "bob", "ann.c", "anna", "an", "ann-b", "ann", "b", "n.ann", "abcdefghijkl")
	for prefix, want := range map[string][]string{
		"":             {"abcdefghijkl", "an", "ann", "ann-b", "ann.c", "anna", "b", "bob", "n.ann"},
		"a":            {"abcdefghijkl", "an", "ann", "ann-b", "ann.c", "anna"},
		"an":           {"an", "ann", "ann-b", "ann.c", "anna"},
		"ann":          {"ann", "ann-b", "ann.c", "anna"},
		"ann-":         {"ann-b"},
		"ann.":         {"ann.c"},
		"anna":         {"anna"},
		"b":            {"b", "bob"},
		"bob":          {"bob"},
		"n":            {"n.ann"},
		"abcdefghijk":  {"abcdefghijkl"},
		"abcdefghijkl": {"abcdefghijkl"},
		"annab":        nil, "ab.": nil, "c": nil, "o": nil, "0": nil, "9": nil, "-": nil, ".": nil, ".ann": nil, "-.-": nil,
		"abcdefghijkm": nil, "------------": nil,
	} {
		for range 5 {
			if l, e := d.List(prefix); !slices.Equal(l, want) || e != api.OK {
				t.Errorf("%q: %q, %d, not %q", prefix, l, e, want)
			}
		}
	}
}

func TestP7_2ListOfNoPrefix(t *testing.T) {
	for _, d := range []*elder.Dir{elder.New(), some(t, "ann", "bob")} {
		for _, prefix := range []string{"A", "aN", "ann ", " ", "_", "*", "a@", "ä", "\x00", "\xff", "abcdefghijklm", strings.Repeat("a", 1<<16)} {
			if l, e := d.List(prefix); len(l) != 0 || e != api.ErrName {
				t.Errorf("%.20q: %q, %d", prefix, l, e)
			}
		}
	}
}
