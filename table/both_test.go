package table_test

import (
	"slices"
	"testing"

	"interrex/api"
	"interrex/octet"
	"interrex/op"
	"interrex/table"
)

// lists are what replies of many deeds have.
var lists = [][]string{nil, {"a"}, {"", "b"}, {"ann", "bob", "\x00"}}

// judge tells a model's verdict.
func (m *model) judge(client uint8, number uint64) table.Verdict {
	var last uint64
	if client < 8 {
		last = m[client].number
	}
	return judged(client, number, last)
}

// put does as Put, told another way.
func (m *model) put(client uint8, number uint64, e api.Errno, l []string) api.Errno {
	switch m.judge(client, number) {
	case table.None:
		return api.ErrArg
	case table.Stale, table.Again:
		return api.ErrState
	}
	if e != api.OK {
		l = nil
	}
	m[client] = line{number, e, l}
	return api.OK
}

// some is a number, mostly one near to a client's last one.
func some(d *dice, last uint64) uint64 {
	switch d.below(12) {
	case 0:
		return 0
	case 1:
		return most + uint64(d.below(3))
	case 2:
		return 1 << 63
	case 3:
		return uint64(d.below(1 << 20))
	}
	return last + uint64(d.below(5)) - min(last, 2)
}

func TestP15_3ManyDeeds(t *testing.T) {
	d := dice(15)
	done := 0
	for range 40 {
		x, m := table.New(), model{}
		for range 500 {
			client := uint8(d.below(10))
			number := some(&d, x.Last(client))
			e, l := api.Errno(max(0, d.below(40)-20)), lists[d.below(len(lists))]
			e = min(e, api.ErrBusy)
			if v, want := x.Judge(client, number), m.judge(client, number); v != want {
				t.Fatalf("client %d, number %d: %s, not %s", client, number, shown(v), shown(want))
			}
			before := x.Last(client)
			got, want := x.Put(client, number, op.Reply{E: e, L: l}), m.put(client, number, e, l)
			if got != want {
				t.Fatalf("client %d, number %d: error %d, not %d", client, number, got, want)
			}
			if after := x.Last(client); got == api.OK && after <= before || got != api.OK && after != before {
				t.Fatalf("client %d: from %d to %d, error %d", client, before, after, got)
			}
			if got == api.OK {
				done++
			}
			isTold(t, "so far", x, m)
		}
		isRead(t, "in the end", written(x), m)
		if written(x) != speltAll(m) {
			t.Fatalf("%q, not %q", written(x), speltAll(m))
		}
	}
	if done < 2000 {
		t.Error("just", done, "were done")
	}
}

// take is what is left of bytes behind so many, and these; false: there are
// not so many.
func take(b string, n int) (string, string, bool) {
	if len(b) < n {
		return "", "", false
	}
	return b[:n], b[n:], true
}

// value is a number that bytes say.
func value(b string) uint64 {
	var x uint64
	for i := len(b) - 1; i >= 0; i-- {
		x = x<<8 | uint64(b[i])
	}
	return x
}

// retold reads a table's bytes another way: what it has, what is left behind
// it, and its error.
func retold(b string) (model, string, api.Errno) {
	var m model
	for client := range m {
		head, rest, ok := take(b, 8)
		if !ok {
			return model{}, "", api.ErrShort
		}
		n := value(head)
		if n > most {
			return model{}, "", api.ErrForm
		}
		b = rest
		if n == 0 {
			continue
		}
		long, rest, ok := take(b, 2)
		if !ok {
			return model{}, "", api.ErrShort
		}
		reply, rest, ok := take(rest, int(value(long)))
		if !ok {
			return model{}, "", api.ErrShort
		}
		p, e := op.Get([]byte(reply))
		if e != api.OK {
			return model{}, "", e
		}
		b = rest
		m[client] = line{n, p.E, p.L}
	}
	return m, b, api.OK
}

// spoilt is bytes of which some were changed, left out or put between.
func spoilt(d *dice, b string) string {
	c := []byte(b)
	for range d.below(4) {
		i := d.below(len(c))
		switch d.below(5) {
		case 0:
			c = c[:i]
		case 1:
			c = slices.Delete(c, i, i+1)
		case 2:
			c = slices.Insert(c, i, byte(d.below(3)))
		case 3:
			c[i] ^= byte(1 << d.below(8))
		case 4:
			c[i] = byte(d.below(20))
		}
		if len(c) == 0 {
			break
		}
	}
	return string(c)
}

// Of any bytes there is at most one table, and it tells them again.
func TestP15_3AnyBytes(t *testing.T) {
	d := dice(16)
	seen := map[api.Errno]int{}
	for range 60000 {
		var m model
		for client := range m {
			if d.below(2) == 0 {
				m.put(uint8(client), uint64(1+d.below(300)), api.Errno(d.below(2)*d.below(19)), lists[d.below(len(lists))])
			}
		}
		b := spoilt(&d, speltAll(m))
		want, left, e := retold(b)
		seen[e]++
		r := octet.Of([]byte(b))
		x := table.Read(r)
		if (x != nil) != (e == api.OK) || r.Err() != e || r.Left() != len(left) {
			t.Fatalf("%q: a table: %t, error %d, left %d; not %d, %d", b, x != nil, r.Err(), r.Left(), e, len(left))
		}
		if x != nil {
			isTold(t, "spoilt", x, want)
			if again := written(x); again+left != b {
				t.Fatalf("%q: %q", b, again)
			}
		}
	}
	for _, e := range []api.Errno{api.OK, api.ErrShort, api.ErrForm, api.ErrLong} {
		if seen[e] < 100 {
			t.Error("error", e, "came", seen[e], "times")
		}
	}
}

// A table that was read is one like any other.
func TestP15_3ReadGoesOn(t *testing.T) {
	m := filled()
	x := table.Read(octet.Of([]byte(speltAll(m))))
	for client := range uint8(8) {
		want := m.put(client, 300, api.OK, []string{"on"})
		if e := x.Put(client, 300, op.Reply{L: []string{"on"}}); e != want {
			t.Errorf("client %d: error %d, not %d", client, e, want)
		}
		isTold(t, "on", x, m)
	}
}

func TestP15_3HandedInIsNotKept(t *testing.T) {
	x := table.New()
	l := []string{"a", "b", "spare", "room"}
	isPut(t, x, 1, 1, op.Reply{L: l[:2]})
	isPut(t, x, 2, 1, op.Reply{L: l[2:]})
	if !slices.Equal(l, []string{"a", "b", "spare", "room"}) {
		t.Errorf("changed: %q", l)
	}
	l[0], l[1], l[2] = "x", "y", "z"
	m := model{1: {1, api.OK, []string{"a", "b"}}, 2: {1, api.OK, []string{"spare", "room"}}}
	isTold(t, "handed in changed", x, m)
	isRead(t, "handed in changed", written(x), m)

	b := []byte(speltAll(m))
	again := table.Read(octet.Of(b))
	clear(b)
	isTold(t, "bytes changed", again, m)
}

// A refused one isn't changed or kept either.
func TestP15_3RefusedIsNotChanged(t *testing.T) {
	x := table.New()
	isPut(t, x, 1, 5, op.Reply{L: []string{"a"}})
	for _, c := range []uint8{1, 8} {
		l := []string{"b", "c"}
		if e := x.Put(c, 5, op.Reply{E: api.ErrNone, L: l}); e == api.OK || !slices.Equal(l, []string{"b", "c"}) {
			t.Errorf("client %d: error %d, %q", c, e, l)
		}
	}
	isTold(t, "refused", x, model{1: {5, api.OK, []string{"a"}}})
}

// spread writes over all of a list's room.
func spread(l []string) {
	l = l[:cap(l)]
	for i := range l {
		l[i] = "other"
	}
}

func TestP15_3AnswersAreNewMemory(t *testing.T) {
	m := filled()
	x := put(t, m)
	for client := range 256 {
		spread(x.Reply(uint8(client)).L)
	}
	isTold(t, "answers changed", x, m)
	y := table.Read(octet.Of([]byte(speltAll(m))))
	for client := range uint8(8) {
		spread(y.Reply(client).L)
	}
	isTold(t, "answers changed", y, m)
	var w octet.Writer
	x.Write(&w)
	clear(w.Bytes())
	isTold(t, "bytes changed", x, m)
}

func TestP15_3Copy(t *testing.T) {
	m := filled()
	x := put(t, m)
	c := x.Copy()
	if c == x {
		t.Fatal("the same one")
	}
	isTold(t, "copied", c, m)
	isTold(t, "of a new one", table.New().Copy(), model{})

	later, other := m, m
	for client := range uint8(8) {
		number := m[client].number + 1
		later.put(client, number, api.OK, []string{"later"})
		x.Put(client, number, op.Reply{L: []string{"later"}})
		isTold(t, "the copy stays", c, m)
	}
	isTold(t, "the first goes on", x, later)
	for client := range uint8(8) {
		number := m[client].number + 2
		other.put(client, number, api.ErrNone, nil)
		c.Put(client, number, op.Reply{E: api.ErrNone})
		isTold(t, "the first stays", x, later)
	}
	isTold(t, "the copy goes on", c, other)
}

func TestP15_3CopysAnswersAreApart(t *testing.T) {
	m := filled()
	x := put(t, m)
	c := x.Copy()
	for client := range uint8(8) {
		spread(c.Reply(client).L)
	}
	isTold(t, "the first", x, m)
	isTold(t, "the copy", c, m)
}

// One table tells nothing of another one that was read from the same reader.
func TestP15_3TablesAreApart(t *testing.T) {
	r := octet.Of([]byte(speltAll(filled()) + speltAll(filled())))
	x, y := table.Read(r), table.Read(r)
	isPut(t, x, 0, 99, op.Reply{L: []string{"x"}})
	isTold(t, "the other one", y, filled())
}
