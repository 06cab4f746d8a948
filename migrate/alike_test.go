package migrate_test

import (
	"bytes"
	"fmt"
	"slices"
	"testing"

	"interrex/api"
	"interrex/elder"
	"interrex/folio"
	"interrex/migrate"
	"interrex/newer"
	"interrex/shot"
)

// deed is one that both schemas know, by its number, with what it is given.
type deed struct {
	what int
	name string // or a prefix
	hash string
}

const (
	creates = iota
	deletes
	sets
	looks
	lists
	kinds
)

// old does it on a directory of the first schema, and tells all that it tells.
func (x deed) old(d *elder.Dir) string {
	switch x.what {
	case creates:
		return fmt.Sprint(d.Create(x.name, x.hash))
	case deletes:
		return fmt.Sprint(d.Delete(x.name))
	case sets:
		return fmt.Sprint(d.SetHash(x.name, x.hash))
	case looks:
		hash, e := d.Lookup(x.name)
		return fmt.Sprintf("%q %d", hash, e)
	}
	l, e := d.List(x.name)
	return fmt.Sprintf("%q %d", l, e)
}

// next does it on a directory of the second schema, and tells all that it
// tells; a user that it tells must have nothing but a name and a sum.
func (x deed) next(t *testing.T, d *newer.Dir) string {
	t.Helper()
	switch x.what {
	case creates:
		return fmt.Sprint(d.Create(x.name, x.hash))
	case deletes:
		return fmt.Sprint(d.Delete(x.name))
	case sets:
		return fmt.Sprint(d.SetHash(x.name, x.hash))
	case looks:
		u, e := d.Lookup(x.name)
		if u.Mail != "" || u.Disabled || len(u.Groups) > 0 || e == api.OK && u.Name != x.name {
			t.Errorf("%q is %s", x.name, shown([]api.User{u}))
		}
		return fmt.Sprintf("%q %d", u.Hash, e)
	}
	l, e := d.List(x.name)
	return fmt.Sprintf("%q %d", l, e)
}

// alike tells whether a directory of the first schema, migrated, is that one of
// the second schema, in whatever way one asks.
func alike(t *testing.T, what string, d *elder.Dir, n *newer.Dir) {
	t.Helper()
	holds(t, what+", up", migrate.Up(d), n.All(), n.Groups())
	isDown(t, what+", down", n, d.All())
	becomes(t, what+", as bytes", shot.Bytes(d), folio.Bytes(n))
}

// sameDone does a deed ahead of migrating and behind it, and tells whether it
// tells the same, and leads to the same. The directory stays as it was.
func sameDone(t *testing.T, l []api.User, x deed) string {
	t.Helper()
	d := old(t, l)
	n := migrate.Up(d)
	ahead, behind := x.old(d), x.next(t, n)
	if ahead != behind {
		t.Errorf("%s: %v: ahead %s, behind %s", shown(l), x, ahead, behind)
	}
	alike(t, fmt.Sprintf("%s: %v", shown(l), x), d, n)
	return ahead
}

// names and hashes are such as there may be, and such as there may not be.
var (
	names  = []string{"", "a", "b", "n", "n0", "n00", "n05", "n11", "n12", "zz", "a-", "a-b", "9", "A", "?", "abcdefghijkl", "abcdefghijklm", "ä", "n00abcdefghi"}
	hashes = []string{"", "0", "f", "0f", "F", "g", "0123456789ab", "0123456789abc", "?"}
)

// One deed of each kind, given all of these, at all directories.
func TestP13_2EachDeed(t *testing.T) {
	seen := map[string]int{}
	each(func(l []api.User) {
		for _, n := range names {
			for what := range kinds {
				if what != creates && what != sets {
					seen[fmt.Sprint(what, " ", sameDone(t, l, deed{what: what, name: n}))]++
					continue
				}
				for _, h := range hashes {
					seen[fmt.Sprint(what, " ", sameDone(t, l, deed{what, n, h}))]++
				}
			}
		}
	})
	met := func(what int, errs ...api.Errno) {
		for _, e := range errs {
			s := fmt.Sprint(what, " ", int(e))
			if what == looks && e != api.OK {
				s = fmt.Sprintf("%d \"\" %d", what, e)
			}
			if seen[s] == 0 {
				t.Errorf("kind %d never told error %d", what, e)
			}
		}
	}
	met(creates, api.OK, api.ErrName, api.ErrForm, api.ErrSame, api.ErrFull)
	met(deletes, api.OK, api.ErrName, api.ErrNone)
	met(sets, api.OK, api.ErrName, api.ErrForm, api.ErrNone)
	met(looks, api.ErrName, api.ErrNone)
	if seen[fmt.Sprintf("%d [] %d", lists, api.ErrName)] == 0 {
		t.Error("a list never told an error")
	}
}

// deed is a thrown one, mostly of what there may be.
func (d *dice) deed() deed {
	x := deed{what: d.next(kinds), name: fmt.Sprintf("n%02d", d.next(16)), hash: fmt.Sprintf("%x", d.next(300))}
	if d.next(8) == 0 {
		x.name = names[d.next(len(names))]
	}
	if d.next(8) == 0 {
		x.hash = hashes[d.next(len(hashes))]
	}
	if x.what == deletes && d.next(2) == 0 {
		x.what = creates
	}
	return x
}

// Many deeds, one behind the other, ahead of migrating and behind it.
func TestP13_2ManyDeeds(t *testing.T) {
	var dice dice
	for range 20 {
		d := elder.New()
		n := migrate.Up(d)
		full := 0
		for range 200 {
			x := dice.deed()
			ahead, behind := x.old(d), x.next(t, n)
			if ahead != behind {
				t.Fatalf("%v: ahead %s, behind %s", x, ahead, behind)
			}
			alike(t, fmt.Sprint(x), d, n)
			if ahead == fmt.Sprint(int(api.ErrFull)) {
				full++
			}
		}
		if full == 0 {
			t.Error("it was never full")
		}
	}
}

// Wherever one migrates in a row of deeds, all tell the same, and it ends the
// same; there are deeds behind coming down, too.
func TestP13_2WhereverOneMigrates(t *testing.T) {
	dice := dice(7)
	for range 20 {
		deeds := make([]deed, 60)
		d := elder.New()
		var want []string
		for i := range deeds {
			deeds[i] = dice.deed()
			want = append(want, deeds[i].old(d))
		}
		for at := range len(deeds) + 1 {
			var told []string
			before := elder.New()
			for _, x := range deeds[:at] {
				told = append(told, x.old(before))
			}
			n := migrate.Up(before)
			for _, x := range deeds[at:] {
				told = append(told, x.next(t, n))
			}
			if !slices.Equal(told, want) {
				t.Errorf("migrated at %d: %q, not %q", at, told, want)
			}
			alike(t, fmt.Sprint("migrated at ", at), d, n)
		}
		thereAndBack(t, deeds, d, want)
	}
}

// thereAndBack goes up and comes down between the deeds.
func thereAndBack(t *testing.T, deeds []deed, d *elder.Dir, want []string) {
	t.Helper()
	x := elder.New()
	for i := 0; i+1 < len(deeds); i += 2 {
		n := migrate.Up(x)
		if told := deeds[i].next(t, n); told != want[i] {
			t.Errorf("up, %v: %q, not %q", deeds[i], told, want[i])
		}
		var e api.Errno
		x, e = migrate.Down(n)
		must(t, "Down", e)
		if told := deeds[i+1].old(x); told != want[i+1] {
			t.Errorf("down, %v: %q, not %q", deeds[i+1], told, want[i+1])
		}
	}
	oldHolds(t, "there and back", x, d.All())
}

// spoilNew changes all that there is in a directory of the second schema.
func spoilNew(d *newer.Dir) {
	for i, n := range slices.Backward(d.All()) {
		d.SetHash(n.Name, "ee")
		d.SetMail(n.Name, fmt.Sprintf("s%d@y.z", i))
		d.Rename(n.Name, fmt.Sprint("s", i))
	}
	d.MakeGroup("s")
	d.Join("s", "s0")
	d.Delete("s1")
	d.Create("t", "1")
}

// spoilOld changes all that there is in a directory of the first schema.
func spoilOld(d *elder.Dir) {
	for i, u := range d.All() {
		d.SetHash(u.Name, "ee")
		if i%2 == 0 {
			d.Delete(u.Name)
		}
	}
	d.Create("t", "1")
}

// What is handed to Up stays, and what it answers is apart.
func TestP13_2UpIsApart(t *testing.T) {
	each(func(l []api.User) {
		d := old(t, l)
		one, two := migrate.Up(d), migrate.Up(d)
		oldHolds(t, "handed in", d, l)
		spoilNew(one)
		oldHolds(t, "handed in, the answer changed", d, l)
		holds(t, "another answer", two, l, nil)
		three := migrate.Up(d)
		spoilOld(d)
		holds(t, "what was handed in changed", two, l, nil)
		holds(t, "what was handed in changed", three, l, nil)
	})
}

// What is handed to Down stays, and what it answers is apart.
func TestP13_2DownIsApart(t *testing.T) {
	each(func(l []api.User) {
		d := made(t, l, nil)
		one, _ := migrate.Down(d)
		two, _ := migrate.Down(d)
		holds(t, "handed in", d, l, nil)
		spoilOld(one)
		holds(t, "handed in, the answer changed", d, l, nil)
		oldHolds(t, "another answer", two, l)
		three, _ := migrate.Down(d)
		spoilNew(d)
		oldHolds(t, "what was handed in changed", two, l)
		oldHolds(t, "what was handed in changed", three, l)
	})
	eachNew(func(l []api.User, groups []string) {
		d := made(t, l, groups)
		migrate.Down(d)
		holds(t, "handed in", d, l, groups)
	})
}

// bytesApart tells whether bytes and their spare room stay, whatever is done to
// what they became, and the other way round.
func bytesApart(t *testing.T, b, want []byte) {
	t.Helper()
	room := append(bytes.Clone(b), 7, 7, 7, 7)
	was := bytes.Clone(room)
	one, _ := migrate.Bytes(room[:len(b)])
	two, _ := migrate.Bytes(room[:len(b)])
	if !bytes.Equal(room, was) {
		t.Errorf("%.90q became %.90q", was, room)
	}
	whole := one[:cap(one)]
	for i := range whole {
		whole[i] = 'z'
	}
	if !bytes.Equal(room, was) || !bytes.Equal(two, want) {
		t.Errorf("the answer changed: %.90q, %.90q", room, two)
	}
	for i := range room {
		room[i] = 'z'
	}
	if !bytes.Equal(two, want) {
		t.Errorf("what was handed in changed: %.90q", two)
	}
}

func TestP13_2BytesAreApart(t *testing.T) {
	each(func(l []api.User) {
		bytesApart(t, oldBytes(l), newBytes(l, nil))
		becomes(t, "once more", oldBytes(l), newBytes(l, nil))
	})
	eachNew(func(l []api.User, groups []string) {
		bytesApart(t, newBytes(l, groups), newBytes(l, groups))
		becomes(t, "once more", newBytes(l, groups), newBytes(l, groups))
	})
	bytesApart(t, []byte{2, 7, 0}, nil)
	bytesApart(t, []byte{1, 13, 0}, nil)
}

// What nothing comes of leaves nothing behind.
func TestP13_2NothingIsKept(t *testing.T) {
	for range 2 {
		migrate.Up(nil)
		isNone(t, "nil", nil)
		refused(t, "short", oldBytes(people(3))[:9], api.ErrShort)
		becomes(t, "one", oldBytes(called("b")), newBytes(called("b"), nil))
		refused(t, "short", newBytes(people(3), []string{"g"})[:9], api.ErrShort)
		becomes(t, "none", oldBytes(nil), newBytes(nil, nil))
	}
}
