package mail_test

import (
	"fmt"
	"slices"
	"testing"

	"interrex/api"
	"interrex/mail"
)

func TestP9_2Of(t *testing.T) {
	x := mail.New()
	x.Set("ann", "ANN@x.org")
	x.Set("ann-b", "b@x.org")
	for n, want := range map[string]string{"ann": "ann@x.org", "ann-b": "b@x.org"} {
		if m, has := x.Of(n); m != want || !has {
			t.Errorf("%q: %q, %v", n, m, has)
		}
	}
	for _, n := range append([]string{"an", "anna", "ann-", "b", "ann@x.org", "cid"}, noNames...) {
		hasNone(t, "two", x, n)
	}
}

func TestP9_2Find(t *testing.T) {
	x := mail.New()
	x.Set("ann", "Ann.B@x.org")
	x.Set("bob", "b9@X.y.9")
	for m, want := range map[string]string{
		"ann.b@x.org": "ann", "Ann.B@x.org": "ann", "ANN.B@X.ORG": "ann", "aNN.b@x.oRG": "ann",
		"b9@x.y.9": "bob", "B9@x.Y.9": "bob",
	} {
		if n, e := x.Find(m); n != want || e != api.OK {
			t.Errorf("%q: %q, %d", m, n, e)
		}
	}
	for _, m := range []string{"ann@x.org", "ann.b@x.or", "nn.b@x.org", "ann.b@y.x.org", "ann-b@x.org", "b9@x.y", "b9@x.y.9.9", "a@b.c", "abcdefghijkl@m.op.qr"} {
		isNobodys(t, "two", x, m, api.ErrNone)
	}
	for _, m := range append([]string{"", "ann", "bob"}, noMails...) {
		isNobodys(t, "two", x, m, api.ErrMail)
		isNobodys(t, "a new one", mail.New(), m, api.ErrMail)
	}
}

// There is room for many more than there may be users.
func TestP9_2Len(t *testing.T) {
	x := mail.New()
	want := map[string]string{}
	for i := range 1000 {
		n := fmt.Sprintf("n%d", i)
		want[n] = fmt.Sprintf("m%d@x.org", i)
		is(t, n, x.Set(n, want[n]), api.OK)
		if x.Len() != i+1 {
			t.Fatal(x.Len())
		}
	}
	holds(t, "many", x, want)
	for i := range 1000 {
		if !x.Drop(fmt.Sprintf("n%d", i)) || x.Len() != 999-i {
			t.Fatal(i, x.Len())
		}
	}
}

// However the names came, and whatever their addresses are, they rise.
func TestP9_2NamesRise(t *testing.T) {
	x := mail.New()
	for i, n := range []string{"b", "a.b", "aa", "a-b", "a", "a0", "z9", "c", "abcdefghijkl"} {
		is(t, n, x.Set(n, fmt.Sprintf("m@x.%d", 9-i)), api.OK)
	}
	want := []string{"a m@x.5", "a-b m@x.6", "a.b m@x.8", "a0 m@x.4", "aa m@x.7", "abcdefghijkl m@x.1", "b m@x.9", "c m@x.2", "z9 m@x.3"}
	for range 20 {
		if l := told(x); !slices.Equal(l, want) {
			t.Fatal(l)
		}
	}
}

// They are told as they are when Names is called, each time that they are
// gone through, whatever is done then, or meanwhile.
func TestP9_2NamesStay(t *testing.T) {
	x := some(t, "ann", "bob", "cid")
	names := x.Names()
	change := func() {
		x.Drop("ann")
		x.Set("bob", "a@b.c")
		x.Rename("cid", "dan")
		x.Set("aaa", "ann@x.org")
	}
	for i := range 3 {
		var l []string
		for n, m := range names {
			l = append(l, n+" "+m)
			change()
		}
		if !slices.Equal(l, []string{"ann ann@x.org", "bob bob@x.org", "cid cid@x.org"}) {
			t.Error(i, l)
		}
	}
	holds(t, "changed", x, map[string]string{"aaa": "ann@x.org", "bob": "a@b.c", "dan": "cid@x.org"})
}

// Nor does what comes to an empty index come to what it told.
func TestP9_2NamesOfNoAddresses(t *testing.T) {
	x := mail.New()
	names := x.Names()
	x.Set("ann", "a@b.c")
	for n, m := range names {
		t.Error(n, m)
	}
}

// Whoever has enough is told no more, and may go through it again from the
// beginning.
func TestP9_2NamesUntilEnough(t *testing.T) {
	names := some(t, "ann", "bob", "cid").Names()
	for range 2 {
		for enough := range 4 {
			var l []string
			names(func(n, m string) bool {
				l = append(l, n)
				return len(l) <= enough
			})
			if want := []string{"ann", "bob", "cid"}[:min(enough+1, 3)]; !slices.Equal(l, want) {
				t.Error(enough, l)
			}
		}
	}
	for n, m := range names {
		for o, p := range names {
			if o == n && p != m {
				t.Error(n, m, p)
			}
		}
	}
}

func TestP9_2Copy(t *testing.T) {
	x := some(t, "ann", "bob", "cid")
	c := x.Copy()
	was := map[string]string{"ann": "ann@x.org", "bob": "bob@x.org", "cid": "cid@x.org"}
	holds(t, "a copy", c, was)
	x.Drop("ann")
	x.Set("bob", "a@b.c")
	x.Rename("cid", "dan")
	x.Set("eve", "ann@x.org")
	is := map[string]string{"bob": "a@b.c", "dan": "cid@x.org", "eve": "ann@x.org"}
	holds(t, "the copy of one that changed", c, was)
	holds(t, "one that changed", x, is)
	c.Drop("cid")
	c.Set("bob", "d@e.f")
	c.Rename("ann", "dan")
	c.Set("ann", "cid@x.org")
	holds(t, "one whose copy changed", x, is)
	holds(t, "the copy", c, map[string]string{"ann": "cid@x.org", "bob": "d@e.f", "dan": "ann@x.org"})
	isNobodys(t, "the copy", c, "bob@x.org", api.ErrNone)
	isNobodys(t, "the copy", c, "a@b.c", api.ErrNone)
}

// A copy of an empty one is apart, too, on both sides.
func TestP9_2CopyOfNoAddresses(t *testing.T) {
	x := mail.New()
	c := x.Copy()
	is(t, "Set", c.Set("ann", "a@b.c"), api.OK)
	holds(t, "the empty one", x, nil)
	y := some(t, "ann")
	y.Drop("ann")
	d := y.Copy()
	is(t, "Set", y.Set("bob", "ann@x.org"), api.OK)
	holds(t, "a copy of one that was emptied", d, nil)
	is(t, "Set", d.Set("cid", "ann@x.org"), api.OK)
	holds(t, "the one that was emptied", y, map[string]string{"bob": "ann@x.org"})
}

// Asking changes nothing.
func TestP9_2AskingChangesNothing(t *testing.T) {
	x := some(t, "ann", "bob")
	for _, s := range append(append([]string{"ann", "cid", "ann@x.org", "a@b.c", ""}, noNames...), noMails...) {
		x.Of(s)
		x.Find(s)
		x.Copy()
		x.Len()
		told(x)
	}
	holds(t, "asked", x, map[string]string{"ann": "ann@x.org", "bob": "bob@x.org"})
}
