package folio_test

import (
	"bytes"
	"fmt"
	"slices"
	"strings"
	"testing"

	"interrex/api"
	"interrex/folio"
	"interrex/newer"
	"interrex/user"
)

// people is so many users whose names rise, with nothing but a sum.
func people(n int) []api.User {
	l := make([]api.User, n)
	for i := range l {
		l[i] = api.User{Name: fmt.Sprintf("n%02d", i), Hash: fmt.Sprintf("%x", i)}
	}
	return l
}

// called is users of these names, with nothing but the sum 1.
func called(names ...string) []api.User {
	var l []api.User
	for _, n := range names {
		l = append(l, api.User{Name: n, Hash: "1"})
	}
	return l
}

// named is so many groups whose names rise.
func named(n int) []string {
	l := make([]string, n)
	for i := range l {
		l[i] = fmt.Sprintf("g%04d", i)
	}
	return l
}

// three is users that have all that a user may have, and groups of which one
// has no member.
func three() ([]api.User, []string) {
	return []api.User{
		{Name: "ann", Hash: "1", Mail: "a@b.c", Groups: []string{"dev", "ops"}},
		{Name: "bob", Hash: "2", Disabled: true, Groups: []string{"dev"}},
		{Name: "cid", Hash: "0f", Mail: "c@b.c"},
	}, []string{"dev", "ops", "top"}
}

// large is so many users and groups with as much as may be.
func large(users, groups int) ([]api.User, []string) {
	l, g := people(users), named(groups)
	for i := range g {
		g[i] += "abcdefg"
	}
	for i := range l {
		l[i].Mail = l[i].Name + "@abcdefghijkl.mno"
		l[i].Name += "abcdefghi"
		l[i].Hash = "0123456789ab"
		l[i].Disabled = i%2 == 0
		l[i].Groups = slices.Clone(g)
	}
	return l, g
}

// must tells of a deed that was refused.
func must(t *testing.T, what string, e api.Errno) {
	t.Helper()
	if e != api.OK {
		t.Fatalf("%s: error %d", what, e)
	}
}

// made is the directory of users and groups, which came by deeds, the last one
// first.
func made(t *testing.T, l []api.User, groups []string) *newer.Dir {
	t.Helper()
	d := newer.New()
	for _, g := range slices.Backward(groups) {
		must(t, "MakeGroup "+g, d.MakeGroup(g))
	}
	for _, u := range slices.Backward(l) {
		must(t, "Create "+u.Name, d.Create(u.Name, u.Hash))
		must(t, "SetMail "+u.Mail, d.SetMail(u.Name, u.Mail))
		for _, g := range slices.Backward(u.Groups) {
			must(t, "Join "+g, d.Join(g, u.Name))
		}
		if u.Disabled {
			must(t, "Disable "+u.Name, d.Disable(u.Name, true))
		}
	}
	return d
}

// number is one of 2 as bytes, told once more in another way.
func number(n int) string { return string([]byte{byte(n), byte(n >> 8)}) }

// text is a text as bytes.
func text(s string) string { return number(len(s)) + s }

// row is a row as bytes.
func row(l ...string) string {
	s := number(len(l))
	for _, x := range l {
		s += text(x)
	}
	return s
}

// person is a user as bytes.
func person(u api.User) string {
	disabled := "\x00"
	if u.Disabled {
		disabled = "\x01"
	}
	return text(u.Name) + text(u.Hash) + text(u.Mail) + disabled + row(u.Groups...)
}

// persons is users as bytes, one behind the other.
func persons(l []api.User) string {
	var s strings.Builder
	for _, u := range l {
		s.WriteString(person(u))
	}
	return s.String()
}

// said is bytes that tell groups, say that there are so many users, and tell
// what stands behind.
func said(groups []string, n int, behind ...string) []byte {
	return []byte("\x02" + row(groups...) + number(n) + strings.Join(behind, ""))
}

// written is the bytes of users and groups, also of such as may not be.
func written(l []api.User, groups []string) []byte { return said(groups, len(l), persons(l)) }

// shown is users as a text.
func shown(l []api.User) string {
	var s []string
	for _, u := range l {
		s = append(s, fmt.Sprintf("%.20q:%.20q:%.30q:%v:%.90q", u.Name, u.Hash, u.Mail, u.Disabled, u.Groups))
	}
	return strings.Join(s, " ")
}

// holds tells whether a directory has these users and groups.
func holds(t *testing.T, what string, d *newer.Dir, l []api.User, groups []string) {
	t.Helper()
	if d == nil {
		t.Fatalf("%s: there is no directory", what)
	}
	if all := d.All(); d.Len() != len(l) || !slices.EqualFunc(all, l, user.Same) {
		t.Errorf("%s: %d: %s, not %d: %s", what, d.Len(), shown(all), len(l), shown(l))
	}
	if all := d.Groups(); !slices.Equal(all, groups) {
		t.Errorf("%s: groups %q, not %q", what, all, groups)
	}
}

// tells tells whether a directory's bytes are these.
func tells(t *testing.T, what string, d *newer.Dir, want []byte) {
	t.Helper()
	if b := folio.Bytes(d); !bytes.Equal(b, want) {
		t.Errorf("%s: %q, not %q", what, b, want)
	}
}

func TestP12_1BytesExample(t *testing.T) {
	tells(t, "an empty directory", newer.New(), []byte{2, 0, 0, 0, 0})
}

// threeBytes is those of three, written out.
var threeBytes = []byte{
	2,
	3, 0, 3, 0, 'd', 'e', 'v', 3, 0, 'o', 'p', 's', 3, 0, 't', 'o', 'p',
	3, 0,
	3, 0, 'a', 'n', 'n', 1, 0, '1', 5, 0, 'a', '@', 'b', '.', 'c', 0, 2, 0, 3, 0, 'd', 'e', 'v', 3, 0, 'o', 'p', 's',
	3, 0, 'b', 'o', 'b', 1, 0, '2', 0, 0, 1, 1, 0, 3, 0, 'd', 'e', 'v',
	3, 0, 'c', 'i', 'd', 2, 0, '0', 'f', 5, 0, 'c', '@', 'b', '.', 'c', 0, 0, 0,
}

func TestP12_1Bytes(t *testing.T) {
	l, groups := three()
	tells(t, "three users, three groups", made(t, l, groups), threeBytes)
	tells(t, "one user", made(t, called("a"), nil), []byte{2, 0, 0, 1, 0, 1, 0, 'a', 1, 0, '1', 0, 0, 0, 0, 0})
	tells(t, "one group", made(t, nil, []string{"dev"}), []byte{2, 1, 0, 3, 0, 'd', 'e', 'v', 0, 0})
	tells(t, "a user that is no member", made(t, called("a"), []string{"g"}), []byte{2, 1, 0, 1, 0, 'g', 1, 0, 1, 0, 'a', 1, 0, '1', 0, 0, 0, 0, 0})
	great := made(t, called("a"), nil)
	must(t, "an address in great letters", great.SetMail("a", "A@B.c"))
	tells(t, "an address in great letters", great, said(nil, 1, text("a"), text("1"), text("a@b.c"), "\x00", number(0)))
}

// So many users and groups as may be, with little and with as much as may be.
func TestP12_1BytesOfEachLength(t *testing.T) {
	for users := range api.MaxUsers + 1 {
		for groups := range api.MaxGroups + 1 {
			what := fmt.Sprint(users, " users, ", groups, " groups")
			tells(t, what, made(t, people(users), named(groups)), written(people(users), named(groups)))
			l, g := large(users, groups)
			tells(t, what+", large ones", made(t, l, g), written(l, g))
		}
	}
}

// However users and groups came, they are written rising, byte by byte.
func TestP12_1BytesRise(t *testing.T) {
	rising := []string{"a", "a-b", "a.b", "a0", "aa", "ab"}
	l := called(rising...)
	for i := range l {
		l[i].Groups = rising
	}
	want := written(l, rising)
	for i := range rising {
		for j := range rising {
			users := append(slices.Clone(rising[i:]), rising[:i]...)
			groups := append(slices.Clone(rising[j:]), rising[:j]...)
			slices.Reverse(groups)
			d := newer.New()
			for k := range rising {
				must(t, "MakeGroup", d.MakeGroup(groups[k]))
				must(t, "Create", d.Create(users[k], "1"))
			}
			for _, n := range users {
				for _, g := range groups {
					must(t, "Join", d.Join(g, n))
				}
			}
			tells(t, fmt.Sprintf("%q, %q", users, groups), d, want)
		}
	}
}

func TestP12_1BytesOfNoDirectory(t *testing.T) {
	if b := folio.Bytes(nil); len(b) != 0 {
		t.Error(b)
	}
}

// The bytes are those of what the directory is now, whatever was done.
func TestP12_1BytesFollow(t *testing.T) {
	l, groups := three()
	d := made(t, l, groups)
	folio.Bytes(d)
	follows := func(what string, e api.Errno) {
		t.Helper()
		must(t, what, e)
		tells(t, what, d, written(l, groups))
	}
	l[0].Hash = "ff"
	follows("another sum", d.SetHash("ann", "ff"))
	l[0].Mail = "x@y.z"
	follows("another address", d.SetMail("ann", "X@y.z"))
	l[2].Mail = ""
	follows("no address", d.SetMail("cid", ""))
	l[2].Disabled = true
	follows("disabled", d.Disable("cid", true))
	l[1].Disabled = false
	follows("not disabled", d.Disable("bob", false))
	l[2].Groups = []string{"top"}
	follows("a member more", d.Join("top", "cid"))
	l[0].Groups = []string{"ops"}
	follows("a member less", d.Leave("dev", "ann"))
	groups = []string{"ops", "top"}
	l[1].Groups = nil
	follows("a group less", d.DropGroup("dev"))
	groups = []string{"all", "ops", "top"}
	follows("a group more", d.MakeGroup("all"))
	l[0].Name = "zoe"
	l = append(l[1:], l[0])
	follows("another name", d.Rename("ann", "zoe"))
	l = slices.Insert(l, 0, called("abe")...)
	follows("a user more", d.Create("abe", "1"))
	l = l[:3]
	follows("a user less", d.Delete("zoe"))
	if e := d.Join("all", "zoe"); e != api.ErrNone {
		t.Error("a user that isn't there joined", e)
	}
	follows("what was refused", api.OK)
}

func TestP12_1Most(t *testing.T) {
	l, groups := large(api.MaxUsers, api.MaxGroups)
	d := made(t, l, groups)
	for range 2 {
		if n := len(folio.Bytes(d)); folio.Most() != n {
			t.Errorf("most is %d, but there may be %d", folio.Most(), n)
		}
	}
	group := 2 + 12
	if n := 1 + 2 + 6*group + 2 + 12*(2+12+2+12+2+20+1+2+6*group); folio.Most() != n || n != 1733 {
		t.Errorf("most is %d, not %d", folio.Most(), n)
	}
}

// None of the largest parts may be larger, and no more of them may be.
func TestP12_1MostIsReached(t *testing.T) {
	l, groups := large(api.MaxUsers, api.MaxGroups)
	n0, g0 := l[0].Name, groups[0]
	d := made(t, l, groups)
	for what, e := range map[string]api.Errno{
		"a user more":      d.Create("z", "1"),
		"a group more":     d.MakeGroup("z"),
		"a longer sum":     d.SetHash(l[1].Name, l[1].Hash+"0"),
		"a longer address": d.SetMail(n0, l[0].Mail+"x"),
		"a longer name":    d.Rename(n0, n0+"x"),
		"in a group twice": d.Join(g0, n0),
	} {
		if e == api.OK {
			t.Errorf("%s may be", what)
		}
	}
	tells(t, "large", d, written(l, groups))
}
