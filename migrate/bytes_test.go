package migrate_test

import (
	"bytes"
	"fmt"
	"slices"
	"strings"
	"testing"

	"interrex/api"
	"interrex/folio"
	"interrex/migrate"
	"interrex/shot"
)

// number is one of 2 as bytes, told in a way of the tests' own, as is all that
// stands on it.
func number(n int) string { return string([]byte{byte(n), byte(n >> 8)}) }

// text is a text as bytes.
func text(s string) string { return number(len(s)) + s }

// row is a row as bytes.
func row(l []string) string {
	s := number(len(l))
	for _, x := range l {
		s += text(x)
	}
	return s
}

// oldUser is a user as bytes of the first schema.
func oldUser(u api.User) string { return text(u.Name) + text(u.Hash) }

// newUser is a user as bytes of the second schema.
func newUser(u api.User) string {
	disabled := "\x00"
	if u.Disabled {
		disabled = "\x01"
	}
	return text(u.Name) + text(u.Hash) + text(u.Mail) + disabled + row(u.Groups)
}

// oldBytes is a directory's bytes of the first schema.
func oldBytes(l []api.User) []byte {
	s := "\x01" + number(len(l))
	for _, u := range l {
		s += oldUser(u)
	}
	return []byte(s)
}

// newBytes is a directory's bytes of the second schema.
func newBytes(l []api.User, groups []string) []byte {
	s := "\x02" + row(groups) + number(len(l))
	for _, u := range l {
		s += newUser(u)
	}
	return []byte(s)
}

// eachNew goes through users and groups of which there is a directory of the
// second schema.
func eachNew(tell func(l []api.User, groups []string)) {
	groups := []string{"dev", "ops", "top"}
	tell(nil, groups)
	each(func(l []api.User) {
		tell(l, nil)
		tell(l, groups)
		some := slices.Clone(l)
		for i := range some {
			some[i].Disabled = i%2 == 0
			if i%3 > 0 {
				some[i].Mail = fmt.Sprintf("x%d@y.z", i)
			}
			some[i].Groups = groups[i%4 : min(i%4+i%3, 3)]
		}
		tell(some, groups)
	})
	most := large(api.MaxUsers)
	all := []string{"g1", "g2", "g3", "g4", "g5", "g6"}
	for i := range most {
		most[i].Mail = most[i].Name[:3] + "@abcdefghijkl.mno"
		most[i].Disabled = true
		most[i].Groups = all
	}
	tell(most, all)
}

// becomes tells whether bytes become these; they stay as they are.
func becomes(t *testing.T, what string, b, want []byte) {
	t.Helper()
	was := bytes.Clone(b)
	got, e := migrate.Bytes(b)
	if e != api.OK || !bytes.Equal(got, want) {
		t.Errorf("%s: %.90q became %.90q, error %d, not %.90q", what, was, got, e, want)
	}
	if !bytes.Equal(b, was) {
		t.Errorf("%s: the bytes were %.90q, and are %.90q", what, was, b)
	}
}

// refused tells whether bytes become none, by that error; they stay as they
// are.
func refused(t *testing.T, what string, b []byte, want api.Errno) {
	t.Helper()
	was := bytes.Clone(b)
	if got, e := migrate.Bytes(b); len(got) != 0 || e != want {
		t.Errorf("%s: %.90q became %.90q, error %d, not %d", what, was, got, e, want)
	}
	if !bytes.Equal(b, was) {
		t.Errorf("%s: the bytes were %.90q, and are %.90q", what, was, b)
	}
}

func TestP13_1BytesExample(t *testing.T) {
	becomes(t, "an empty directory", []byte{1, 0, 0}, []byte{2, 0, 0, 0, 0})
}

func TestP13_1BytesOfTheFirstSchema(t *testing.T) {
	becomes(t, "two users",
		[]byte{1, 2, 0, 1, 0, 'a', 2, 0, '0', 'f', 1, 0, 'b', 1, 0, '1'},
		[]byte{2, 0, 0, 2, 0, 1, 0, 'a', 2, 0, '0', 'f', 0, 0, 0, 0, 0, 1, 0, 'b', 1, 0, '1', 0, 0, 0, 0, 0})
	each(func(l []api.User) {
		becomes(t, "written", oldBytes(l), newBytes(l, nil))
		d := old(t, l)
		becomes(t, "a directory's", shot.Bytes(d), folio.Bytes(migrate.Up(d)))
	})
}

func TestP13_1BytesOfTheSecondSchema(t *testing.T) {
	becomes(t, "an empty directory", []byte{2, 0, 0, 0, 0}, []byte{2, 0, 0, 0, 0})
	eachNew(func(l []api.User, groups []string) {
		b := newBytes(l, groups)
		becomes(t, "written", b, b)
		b = folio.Bytes(made(t, l, groups))
		becomes(t, "a directory's", b, b)
	})
}

// What was migrated once stays as it is.
func TestP13_1BytesTwice(t *testing.T) {
	each(func(l []api.User) {
		once, _ := migrate.Bytes(oldBytes(l))
		becomes(t, "migrated once", once, once)
	})
}

func TestP13_1NoBytes(t *testing.T) {
	for _, b := range [][]byte{nil, {}, make([]byte, 0, 8), {1, 0, 0}, {2, 0, 0, 0, 0}} {
		refused(t, "no bytes", b[:0], api.ErrShort)
	}
}

func TestP13_1BytesOfNoSchema(t *testing.T) {
	for x := range 256 {
		if x == 1 || x == 2 {
			continue
		}
		for _, b := range []string{"", "\x00", "\x07\x00", "\x00\x00\x0d\x00", "\xff\xff\xff\xff"} {
			refused(t, "no schema", append([]byte{byte(x)}, b...), api.ErrVersion)
		}
		for _, b := range [][]byte{oldBytes(people(2)), newBytes(people(2), nil)} {
			b[0] = byte(x)
			refused(t, "no schema", b, api.ErrVersion)
		}
	}
}

func TestP13_1BytesShort(t *testing.T) {
	beginnings := func(b []byte) {
		for n := range len(b) {
			refused(t, "a beginning", b[:n], api.ErrShort)
		}
	}
	each(func(l []api.User) { beginnings(oldBytes(l)) })
	eachNew(func(l []api.User, groups []string) { beginnings(newBytes(l, groups)) })
}

func TestP13_1BytesLeft(t *testing.T) {
	for x := range 256 {
		each(func(l []api.User) { refused(t, "a byte left", append(oldBytes(l), byte(x)), api.ErrLong) })
		refused(t, "a byte left", append(newBytes(people(3), nil), byte(x)), api.ErrLong)
	}
	refused(t, "another one left", append(oldBytes(nil), newBytes(nil, nil)...), api.ErrLong)
	refused(t, "another one left", append(newBytes(nil, nil), oldBytes(nil)...), api.ErrLong)
}

// Read's errors of the first schema, and which of several stands ahead.
func TestP13_1BytesRefusedOfTheFirstSchema(t *testing.T) {
	for _, c := range []struct {
		what, b string
		e       api.Errno
	}{
		{"too many users", "\x01\x0d\x00", api.ErrFull},
		{"too many users, all of them there", string(oldBytes(people(13))), api.ErrFull},
		{"too many users, the first one none", "\x01\x00\x01" + oldUser(api.User{Name: "A"}), api.ErrFull},
		{"no name", string(oldBytes(called("a", "B"))), api.ErrName},
		{"no name, too long", string(oldBytes(called(strings.Repeat("a", 13)))), api.ErrName},
		{"no sum", string(oldBytes([]api.User{{Name: "a", Hash: "g"}})), api.ErrForm},
		{"no name, no sum", string(oldBytes([]api.User{{Name: "A", Hash: "g"}})), api.ErrName},
		{"no sum, then no name", string(oldBytes([]api.User{{Name: "a"}, {Name: "B"}})), api.ErrForm},
		{"no name, the next one wanting", "\x01\x02\x00" + oldUser(called("A")[0]), api.ErrName},
		{"names that don't rise", string(oldBytes(called("b", "a"))), api.ErrSame},
		{"a name twice", string(oldBytes(called("a", "a"))), api.ErrSame},
		{"names that don't rise, then no name", string(oldBytes(called("b", "a", "C"))), api.ErrName},
		{"names that don't rise, the next one wanting", "\x01\x03" + string(oldBytes(called("b", "a")))[2:], api.ErrShort},
		{"names that don't rise, bytes left", string(oldBytes(called("b", "a"))) + "\x00", api.ErrSame},
		{"what more the second schema has", "\x01\x01\x00" + newUser(called("a")[0]), api.ErrLong},
	} {
		refused(t, c.what, []byte(c.b), c.e)
	}
}

// Read's errors of the second schema, and which of several stands ahead.
func TestP13_1BytesRefusedOfTheSecondSchema(t *testing.T) {
	one := api.User{Name: "a", Hash: "1", Mail: "a@b.c"}
	two := api.User{Name: "b", Hash: "1", Mail: "a@b.c"}
	out := api.User{Name: "c", Hash: "1", Groups: []string{"g"}}
	list := func(l ...api.User) []api.User { return l }
	for _, c := range []struct {
		what, b string
		e       api.Errno
	}{
		{"too many groups", "\x02\x07\x00", api.ErrLong},
		{"a group too long", "\x02\x01\x00\x0d\x00", api.ErrLong},
		{"too many users", "\x02\x00\x00\x0d\x00", api.ErrFull},
		{"no name", string(newBytes(called("a", "B"), nil)), api.ErrName},
		{"no sum", string(newBytes(list(api.User{Name: "a"}), nil)), api.ErrForm},
		{"no address", string(newBytes(list(api.User{Name: "a", Hash: "1", Mail: "A@b.c"}), nil)), api.ErrMail},
		{"no truth", "\x02\x00\x00\x01\x00" + text("a") + text("1") + text("") + "\x02\x00\x00", api.ErrForm},
		{"names that don't rise", string(newBytes(called("b", "a"), nil)), api.ErrSame},
		{"a group is no name", string(newBytes(nil, []string{"G"})), api.ErrName},
		{"groups that don't rise", string(newBytes(nil, []string{"h", "g"})), api.ErrSame},
		{"a group that isn't there", string(newBytes(list(out), nil)), api.ErrNone},
		{"an address of two", string(newBytes(list(one, two), nil)), api.ErrSame},
		{"a group is no name, bytes left", string(newBytes(nil, []string{"G"})) + "\x00", api.ErrName},
		{"users of the first schema", "\x02\x00\x00\x01\x00" + oldUser(called("a")[0]), api.ErrShort},
		{"a directory of the first schema", "\x02" + string(oldBytes(nil))[1:], api.ErrShort},
	} {
		refused(t, c.what, []byte(c.b), c.e)
	}
}

// asRead tells whether bytes become what the layers that read them say, and
// tells the error.
func asRead(t *testing.T, b []byte) api.Errno {
	t.Helper()
	if len(b) > 0 && b[0] == 2 {
		if _, e := folio.Read(b); e != api.OK {
			refused(t, "second schema", b, e)
			return e
		}
		becomes(t, "second schema", b, b)
		return api.OK
	}
	d, e := shot.Read(b)
	if e != api.OK {
		refused(t, "first schema", b, e)
		return e
	}
	becomes(t, "first schema", b, newBytes(d.All(), nil))
	return api.OK
}

// dice is a row of numbers that look thrown, the same each time.
type dice uint64

func (d *dice) next(n int) int {
	*d = *d*6364136223846793005 + 1442695040888963407
	return int(uint64(*d) >> 33 % uint64(n))
}

// spoil changes some bytes, takes some away at an end, or puts one there.
func (d *dice) spoil(b []byte) []byte {
	b = bytes.Clone(b)
	for range d.next(3) {
		b[d.next(len(b))] = []byte{0, 1, 2, 3, 12, 13, 'a', 'b', '1', '@', 'A', 255}[d.next(12)]
	}
	switch d.next(4) {
	case 0:
		b = b[:d.next(len(b)+1)]
	case 1:
		b = append(b, byte(d.next(256)))
	}
	return b
}

func TestP13_1AnyBytes(t *testing.T) {
	var some [][]byte
	each(func(l []api.User) { some = append(some, oldBytes(l[:min(len(l), 3)])) })
	eachNew(func(l []api.User, groups []string) { some = append(some, newBytes(l[:min(len(l), 3)], groups)) })
	var dice dice
	met := map[api.Errno]int{}
	for range 60000 {
		met[asRead(t, dice.spoil(some[dice.next(len(some))]))]++
	}
	for _, e := range []api.Errno{api.OK, api.ErrShort, api.ErrVersion, api.ErrFull, api.ErrLong, api.ErrName, api.ErrForm, api.ErrMail, api.ErrSame, api.ErrNone} {
		if met[e] < 30 {
			t.Errorf("error %d was met %d times", e, met[e])
		}
	}
}

// All bytes of a few lengths.
func TestP13_1AllShortBytes(t *testing.T) {
	signs := []byte{0, 1, 2, 7, 13, 'a'}
	b := make([]byte, 6)
	for n := range len(b) + 1 {
		count := 1
		for range n {
			count *= len(signs)
		}
		for i := range count {
			for k := range n {
				b[k] = signs[i%len(signs)]
				i /= len(signs)
			}
			asRead(t, b[:n])
		}
	}
}
