package shot_test

import (
	"bytes"
	"fmt"
	"slices"
	"strings"
	"testing"

	"interrex/api"
	"interrex/elder"
	"interrex/shot"
	"interrex/user"
)

// people is so many users of the first schema whose names rise.
func people(n int) []api.User {
	l := make([]api.User, n)
	for i := range l {
		l[i] = api.User{Name: fmt.Sprintf("n%02d", i), Hash: fmt.Sprintf("%x", i)}
	}
	return l
}

// large is so many users with as much as may be.
func large(n int) []api.User {
	l := people(n)
	for i := range l {
		l[i].Name += "abcdefghi"
		l[i].Hash = "0123456789ab"
	}
	return l
}

// of is the directory of users, which came by deeds, the last one first.
func of(t *testing.T, users []api.User) *elder.Dir {
	t.Helper()
	d := elder.New()
	for _, u := range slices.Backward(users) {
		if e := d.Create(u.Name, u.Hash); e != api.OK {
			t.Fatalf("Create(%q, %q): %d", u.Name, u.Hash, e)
		}
	}
	return d
}

// pair is a name and a sum as bytes, told once more in another way.
func pair(name, hash string) string {
	text := func(s string) string { return string([]byte{byte(len(s)), byte(len(s) >> 8)}) + s }
	return text(name) + text(hash)
}

// said is bytes that say that there are so many users, and what stands behind.
func said(n int, behind ...string) []byte {
	return append([]byte{1, byte(n), byte(n >> 8)}, strings.Join(behind, "")...)
}

// written is the bytes of users, also of such as may not be.
func written(users []api.User) []byte {
	b := said(len(users))
	for _, u := range users {
		b = append(b, pair(u.Name, u.Hash)...)
	}
	return b
}

// shown is users as a text.
func shown(l []api.User) string {
	var s []string
	for _, u := range l {
		s = append(s, fmt.Sprintf("%q:%q", u.Name, u.Hash))
	}
	return strings.Join(s, " ")
}

// holds tells whether a directory has these users.
func holds(t *testing.T, what string, d *elder.Dir, want []api.User) {
	t.Helper()
	if d == nil {
		t.Fatalf("%s: there is no directory", what)
	}
	if all := d.All(); d.Len() != len(want) || !slices.EqualFunc(all, want, user.Same) {
		t.Errorf("%s: %d: %s, not %d: %s", what, d.Len(), shown(all), len(want), shown(want))
	}
}

// tells tells whether a directory's bytes are these.
func tells(t *testing.T, what string, d *elder.Dir, want []byte) {
	t.Helper()
	if b := shot.Bytes(d); !bytes.Equal(b, want) {
		t.Errorf("%s: %v, not %v", what, b, want)
	}
}

func TestP8_1BytesExample(t *testing.T) {
	tells(t, "an empty directory", elder.New(), []byte{1, 0, 0})
}

func TestP8_1Bytes(t *testing.T) {
	one := of(t, []api.User{{Name: "a", Hash: "1"}})
	tells(t, "one user", one, []byte{1, 1, 0, 1, 0, 'a', 1, 0, '1'})
	d := of(t, []api.User{{Name: "b", Hash: "22"}, {Name: "a-b", Hash: "3"}, {Name: "a", Hash: "0f"}})
	tells(t, "three users", d, []byte{
		1, 3, 0,
		1, 0, 'a', 2, 0, '0', 'f',
		3, 0, 'a', '-', 'b', 1, 0, '3',
		1, 0, 'b', 2, 0, '2', '2',
	})
}

// So many users as may be, with little and with as much as may be.
func TestP8_1BytesOfEachLength(t *testing.T) {
	for n := range api.MaxUsers + 1 {
		tells(t, fmt.Sprint(n), of(t, people(n)), written(people(n)))
		tells(t, fmt.Sprint(n, " large ones"), of(t, large(n)), written(large(n)))
	}
	if n := len(shot.Bytes(of(t, large(api.MaxUsers)))); n != 3+12*(2+12+2+12) {
		t.Errorf("the most bytes are %d", n)
	}
}

// However the users came, they are written rising, byte by byte.
func TestP8_1BytesRise(t *testing.T) {
	rising := []string{"a", "a-b", "a.b", "a0", "aa", "aab", "ab", "b", "b1", "b10", "b2", "z"}
	var users []api.User
	for i, n := range rising {
		users = append(users, api.User{Name: n, Hash: fmt.Sprintf("%x", i)})
	}
	want := written(users)
	for i := range users {
		turned := append(slices.Clone(users[i:]), users[:i]...)
		tells(t, fmt.Sprint("turned by ", i), of(t, turned), want)
		slices.Reverse(turned)
		tells(t, fmt.Sprint("reversed, turned by ", i), of(t, turned), want)
	}
}

func TestP8_1BytesOfNoDirectory(t *testing.T) {
	if b := shot.Bytes(nil); len(b) != 0 {
		t.Error(b)
	}
}

// The bytes are those of what the directory is now.
func TestP8_1BytesFollow(t *testing.T) {
	d := of(t, people(2))
	shot.Bytes(d)
	d.SetHash("n00", "ff")
	tells(t, "another sum", d, said(2, pair("n00", "ff"), pair("n01", "1")))
	d.Create("m", "2")
	tells(t, "one more", d, said(3, pair("m", "2"), pair("n00", "ff"), pair("n01", "1")))
	d.Delete("n00")
	tells(t, "one less", d, said(2, pair("m", "2"), pair("n01", "1")))
	d.Delete("n01")
	d.Delete("m")
	tells(t, "none any more", d, []byte{1, 0, 0})
}

func TestP8_1Schema(t *testing.T) {
	for x := range 256 {
		want := 0
		if x == 1 || x == 2 {
			want = x
		}
		for _, b := range [][]byte{{byte(x)}, {byte(x), 0, 0}, {byte(x), 1}, {byte(x), 2, 1}, append([]byte{byte(x)}, written(people(3))...)} {
			if s := shot.Schema(b); s != want {
				t.Errorf("%v: %d, not %d", b, s, want)
			}
		}
	}
	for _, b := range [][]byte{nil, {}, make([]byte, 0, 8), []byte{1, 0, 0}[:0]} {
		if s := shot.Schema(b); s != 0 {
			t.Errorf("no bytes: %d", s)
		}
	}
	if s := shot.Schema(shot.Bytes(of(t, people(2)))); s != 1 {
		t.Errorf("a directory's bytes: %d", s)
	}
}
