package shot_test

import (
	"bytes"
	"slices"
	"testing"

	"interrex/api"
	"interrex/elder"
	"interrex/name"
	"interrex/shot"
	"interrex/user"
)

// some is users of four names, each with one of two sums or not there: which
// ones is told by a number below 81.
func some(number int) []api.User {
	var l []api.User
	for _, n := range []string{"a", "a-b", "ab", "b"} {
		if sum := number % 3; sum > 0 {
			l = append(l, api.User{Name: n, Hash: []string{"1", "11"}[sum-1]})
		}
		number /= 3
	}
	return l
}

// The same bytes just if the same users, however these came.
func TestP8_2SameBytesJustIfSameUsers(t *testing.T) {
	seen := map[string]int{}
	for i := range 81 {
		a := of(t, some(i))
		b, e := elder.Of(some(i))
		if b == nil || e != api.OK {
			t.Fatal(e)
		}
		c := elder.New()
		for _, u := range some(i) {
			c.Create("z", "1")
			c.Create(u.Name, "0")
			c.SetHash(u.Name, u.Hash)
			c.Delete("z")
		}
		told := string(shot.Bytes(a))
		for _, d := range []*elder.Dir{a, b, c, a.Copy()} {
			tells(t, shown(some(i)), d, []byte(told))
		}
		if j, is := seen[told]; is {
			t.Errorf("%q is %s, and %s", told, shown(some(i)), shown(some(j)))
		}
		seen[told] = i
	}
}

// What is told is read as it was.
func TestP8_2WhatIsToldIsRead(t *testing.T) {
	for i := range 81 {
		d := of(t, some(i))
		b := shot.Bytes(d)
		isRead(t, shown(some(i)), b, some(i))
		again, _ := shot.Read(b)
		tells(t, shown(some(i))+", read", again, b)
		holds(t, shown(some(i))+", told", d, some(i))
	}
}

// dice is a row of numbers that look thrown, the same each time.
type dice uint64

func (d *dice) next(n int) int {
	*d = *d*6364136223846793005 + 1442695040888963407
	return int(uint64(*d) >> 33 % uint64(n))
}

// cutText takes a text off bytes; false: bytes are wanting.
func cutText(b []byte) (string, []byte, bool) {
	if len(b) < 2 {
		return "", nil, false
	}
	n := int(b[0]) + 256*int(b[1])
	if len(b) < 2+n {
		return "", nil, false
	}
	return string(b[2 : 2+n]), b[2+n:], true
}

// read is Read, told once more in another way: the users, or the error.
func read(b []byte) ([]api.User, api.Errno) {
	switch {
	case len(b) == 0:
		return nil, api.ErrShort
	case b[0] != 1:
		return nil, api.ErrVersion
	case len(b) < 3:
		return nil, api.ErrShort
	case b[2] > 0 || b[1] > 12:
		return nil, api.ErrFull
	}
	var l []api.User
	rest := b[3:]
	for range b[1] {
		var u api.User
		var is bool
		if u.Name, rest, is = cutText(rest); !is {
			return nil, api.ErrShort
		}
		if u.Hash, rest, is = cutText(rest); !is {
			return nil, api.ErrShort
		}
		if e := name.Name(u.Name); e != api.OK {
			return nil, e
		}
		if e := name.Hash(u.Hash); e != api.OK {
			return nil, e
		}
		l = append(l, u)
	}
	rising := func(a, b api.User) int { return name.Compare(a.Name, b.Name) }
	if !slices.IsSortedFunc(l, rising) || len(slices.CompactFunc(slices.Clone(l), func(a, b api.User) bool { return a.Name == b.Name })) < len(l) {
		return nil, api.ErrSame
	}
	if len(rest) > 0 {
		return nil, api.ErrLong
	}
	return l, api.OK
}

// spoil changes some bytes, takes some away at an end, or puts one there.
func (d *dice) spoil(b []byte) []byte {
	for range d.next(3) {
		b[d.next(len(b))] = []byte{0, 1, 2, 3, 12, 13, 'a', 'b', '1', '-', 'A', 255}[d.next(12)]
	}
	switch d.next(4) {
	case 0:
		b = b[:d.next(len(b)+1)]
	case 1:
		b = append(b, byte(d.next(256)))
	}
	return b
}

// Of any bytes there is just the directory that tells them again, or none.
func TestP8_2AnyBytes(t *testing.T) {
	var dice dice
	met := map[api.Errno]int{}
	for range 60000 {
		l := some(dice.next(81))
		if n := dice.next(13); n > 4 {
			l = people(n)
		}
		b := dice.spoil(written(l))
		want, e := read(b)
		met[e]++
		if e != api.OK {
			refused(t, "spoilt", b, e)
			continue
		}
		d, e := shot.Read(b)
		if e != api.OK || d == nil || !slices.EqualFunc(d.All(), want, user.Same) || !bytes.Equal(shot.Bytes(d), b) {
			t.Fatalf("%v: error %d", b, e)
		}
	}
	for _, e := range []api.Errno{api.OK, api.ErrShort, api.ErrVersion, api.ErrFull, api.ErrName, api.ErrForm, api.ErrSame, api.ErrLong} {
		if met[e] < 100 {
			t.Errorf("error %d was met %d times", e, met[e])
		}
	}
}

// All bytes of a few lengths.
func TestP8_2AllShortBytes(t *testing.T) {
	signs := []byte{0, 1, 2, 12, 13, 'a'}
	b := make([]byte, 5)
	for n := range len(b) + 1 {
		count := 1
		for range n {
			count *= len(signs)
		}
		for i := range count {
			for k := range n {
				b[k] = signs[i%len(signs)]
				i /= len(signs)
			}
			if l, e := read(b[:n]); e != api.OK {
				refused(t, "short bytes", b[:n], e)
			} else {
				isRead(t, "short bytes", b[:n], l)
			}
		}
	}
}

// What is read stays, whatever happens to the bytes; they and their spare room
// stay, too.
func TestP8_2ReadKeepsNothing(t *testing.T) {
	for _, l := range [][]api.User{nil, people(3), large(api.MaxUsers), named("b", "a"), named("A")} {
		room := append(written(l), 7, 7, 7, 7)
		b := room[:len(room)-4]
		d, e := shot.Read(b)
		if !bytes.Equal(room, append(written(l), 7, 7, 7, 7)) {
			t.Errorf("%s: the bytes are %v", shown(l), room)
		}
		if shot.Schema(b); !bytes.Equal(room, append(written(l), 7, 7, 7, 7)) {
			t.Errorf("%s: asked for the schema, the bytes are %v", shown(l), room)
		}
		if e != api.OK {
			continue
		}
		for i := range room {
			room[i] = 'z'
		}
		holds(t, "read, then the bytes changed", d, l)
	}
}

// Directories that were read of the same bytes are apart.
func TestP8_2ReadIsApart(t *testing.T) {
	for _, l := range [][]api.User{nil, people(3)} {
		b := written(l)
		one, _ := shot.Read(b)
		two, _ := shot.Read(b)
		one.Create("z", "1")
		one.SetHash("n00", "ff")
		one.Delete("n01")
		holds(t, "the other one", two, l)
		if !bytes.Equal(b, written(l)) {
			t.Errorf("the bytes are %v", b)
		}
		isRead(t, "read once more", b, l)
	}
}

// Bytes are new memory each time, and the directory stays as it is.
func TestP8_2BytesAreApart(t *testing.T) {
	for _, l := range [][]api.User{nil, people(3), large(api.MaxUsers)} {
		d := of(t, l)
		b := shot.Bytes(d)
		other := shot.Bytes(d)
		for i := range b {
			b[i] = 'z'
		}
		clear(append(b, 'z'))
		if !bytes.Equal(other, written(l)) {
			t.Errorf("told ahead of the change: %v", other)
		}
		tells(t, "told behind the change", d, written(l))
		holds(t, "the directory", d, l)
		d.Create("zz", "1")
		d.Delete("n00")
		if !bytes.Equal(other, written(l)) {
			t.Errorf("told ahead of a deed: %v", other)
		}
	}
}

// A nil Dir and bytes of which there is no directory leave nothing behind.
func TestP8_2NothingIsKept(t *testing.T) {
	for range 2 {
		shot.Bytes(nil)
		refused(t, "short", said(2, pair("a", "1")), api.ErrShort)
		isRead(t, "none", said(0), nil)
		isRead(t, "one", said(1, pair("b", "2")), []api.User{{Name: "b", Hash: "2"}})
	}
}
