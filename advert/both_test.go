package advert_test

import (
	"slices"
	"testing"

	"interrex/advert"
	"interrex/api"
	"interrex/octet"
)

// note does as Note, told another way.
func (m model) note(node, r int) api.Errno {
	if node >= len(m) || r < 1 || r > 3 {
		return api.ErrArg
	}
	m[node] = api.Release(r)
	return api.OK
}

func TestP16_3ManyDeeds(t *testing.T) {
	d := dice(16)
	seen := map[api.Errno]int{}
	for range 60 {
		n := sizes[d.below(3)]
		b, m := advert.New(n), make(model, n)
		for range 300 {
			node, r := d.below(n+2), d.below(6)
			got, want := b.Note(uint8(node), api.Release(r)), m.note(node, r)
			if got != want {
				t.Fatalf("of %d: node %d, release %d: error %d, not %d", n, node, r, got, want)
			}
			seen[got]++
			isTold(t, "so far", b, m)
		}
		if got := written(b); got != spelt(m) {
			t.Fatalf("%q, not %q", got, spelt(m))
		}
		isRead(t, "in the end", written(b), m)
	}
	if seen[api.OK] < 3000 || seen[api.ErrArg] < 3000 {
		t.Error("errors came so often:", seen)
	}
}

// retold reads a board's bytes another way: what it has, what is left behind
// it, and its error.
func retold(b string) (model, string, api.Errno) {
	if b == "" {
		return nil, "", api.ErrShort
	}
	n := int(b[0])
	if !slices.Contains(sizes, n) {
		return nil, "", api.ErrForm
	}
	var m model
	for i := 1; i <= n; i++ {
		if i == len(b) {
			return nil, "", api.ErrShort
		}
		if b[i] >= 4 {
			return nil, "", api.ErrForm
		}
		m = append(m, api.Release(b[i]))
	}
	return m, b[n+1:], api.OK
}

// any is bytes that are mostly almost a board's.
func (d *dice) any() string {
	b := []byte{byte(3 + d.below(5))}
	if d.below(4) > 0 {
		b[0] |= 1
	}
	for range d.below(12) {
		r := byte(d.below(4))
		if d.below(12) == 0 {
			r = byte(d.below(256))
		}
		b = append(b, r)
	}
	return string(b)
}

// Of any bytes there is at most one board, and it tells them again.
func TestP16_3AnyBytes(t *testing.T) {
	d := dice(17)
	seen := map[api.Errno]int{}
	for range 50000 {
		bytes := d.any()
		want, left, e := retold(bytes)
		seen[e]++
		r := octet.Of([]byte(bytes))
		b := advert.Read(r)
		if (b != nil) != (e == api.OK) || r.Err() != e || r.Left() != len(left) {
			t.Fatalf("%q: a board: %t, error %d, left %d; not %d, %d", bytes, b != nil, r.Err(), r.Left(), e, len(left))
		}
		if b != nil {
			isTold(t, "any bytes", b, want)
			if again := written(b); again+left != bytes {
				t.Fatalf("%q: %q", bytes, again)
			}
		}
	}
	for _, e := range []api.Errno{api.OK, api.ErrShort, api.ErrForm} {
		if seen[e] < 1000 {
			t.Error("error", e, "came", seen[e], "times")
		}
	}
}

// A board that was read is one like any other.
func TestP16_3ReadGoesOn(t *testing.T) {
	for _, n := range sizes {
		m := model{3, 0, 1, 2, 0, 0, 3}[:n]
		b := advert.Read(octet.Of([]byte(spelt(m))))
		m = slices.Clone(m)
		for node := range n + 2 {
			for r := range 5 {
				if got, want := b.Note(uint8(node), api.Release(r)), m.note(node, r); got != want {
					t.Errorf("node %d, release %d: error %d, not %d", node, r, got, want)
				}
				isTold(t, "on", b, m)
			}
		}
	}
}

func TestP16_3HandedInIsNotKept(t *testing.T) {
	m := model{1, 2, 3, 0, 1}
	bytes := []byte(spelt(m) + "\x01\x02")
	r := octet.Of(bytes)
	b := advert.Read(r)
	if string(bytes) != spelt(m)+"\x01\x02" {
		t.Errorf("changed: %q", bytes)
	}
	clear(bytes)
	isTold(t, "bytes changed", b, m)
	if r.Two() != 0x0201 || r.End() != api.OK {
		t.Error("what is left", r.Err())
	}
}

// spread writes over all of a list's room.
func spread(l []uint8) {
	l = l[:cap(l)]
	for i := range l {
		l[i] = 77
	}
}

func TestP16_3AnswersAreNewMemory(t *testing.T) {
	for _, n := range sizes {
		m := model{0, 1, 2, 3, 0, 1, 2}[:n]
		b := noted(t, m)
		for r := range 256 {
			kept := b.Lacking(api.Release(r))
			spread(b.Lacking(api.Release(r)))
			if want := m.lacking(api.Release(r)); !slices.Equal(kept, want) {
				t.Errorf("an answer was changed by another one: %d, not %d", kept, want)
			}
			isTold(t, "answers changed", b, m)
		}
		var w octet.Writer
		b.Write(&w)
		clear(w.Bytes())
		isTold(t, "bytes changed", b, m)
	}
}

// An answer stays as it was while the board goes on.
func TestP16_3AnswersStay(t *testing.T) {
	b := advert.New(3)
	l := b.Lacking(api.New)
	for node := range 3 {
		isNoted(t, b, node, api.Both)
		b.Lacking(api.New)
	}
	if !slices.Equal(l, []uint8{0, 1, 2}) {
		t.Error(l)
	}
}

func TestP16_3CopyIsApart(t *testing.T) {
	for _, n := range sizes {
		m := model{3, 0, 1, 2, 0, 0, 3}[:n]
		first := noted(t, m)
		second := first.Copy()
		if first == second {
			t.Fatal("the same one")
		}
		later, other := slices.Clone(m), slices.Clone(m)
		for node := range n {
			isNoted(t, first, node, m[node]%3+1)
			later.note(node, int(m[node]%3+1))
			isTold(t, "the copy stays", second, m)
		}
		isTold(t, "the first one goes on", first, later)
		for node := range n {
			isNoted(t, second, node, 2)
			other.note(node, 2)
			isTold(t, "the first one stays", first, later)
		}
		isTold(t, "the copy goes on", second, other)
	}
}

// One board tells nothing of another one that was read from the same reader.
func TestP16_3BoardsAreApart(t *testing.T) {
	m := model{1, 2, 3}
	r := octet.Of([]byte(spelt(m) + spelt(m)))
	x, y := advert.Read(r), advert.Read(r)
	isNoted(t, x, 0, 3)
	isTold(t, "the other one", y, m)
}

// Being asked and being written change nothing.
func TestP16_3AskingChangesNothing(t *testing.T) {
	m := model{1, 0, 3, 2, 0}
	b := noted(t, m)
	for range 3 {
		isTold(t, "asked", b, m)
		if got := written(b); got != spelt(m) {
			t.Errorf("%q, not %q", got, spelt(m))
		}
	}
}
