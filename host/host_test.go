package host_test

import (
	"bytes"
	"math"
	"slices"
	"testing"

	"interrex/advert"
	"interrex/api"
	"interrex/host"
	"interrex/op"
	"interrex/table"
)

func TestP17_1New(t *testing.T) {
	for n := -600; n <= 600; n++ {
		h := host.New(n)
		if !slices.Contains(sizes, n) {
			if h != nil {
				t.Errorf("of %d nodes there is a host", n)
			}
			continue
		}
		isTold(t, "a new host", h, fresh(n))
		if b := h.Dir(); !bytes.Equal(b, []byte{1, 0, 0}) {
			t.Errorf("of %d nodes the directory is %d", n, b)
		}
	}
	for _, n := range []int{math.MinInt, math.MaxInt, 1<<32 + 3, 1<<16 + 5, 1<<8 + 7, -3, -5, -7} {
		if host.New(n) != nil {
			t.Errorf("of %d nodes there is a host", n)
		}
	}
}

func TestP17_1NewOnesAreApart(t *testing.T) {
	for _, n := range sizes {
		x, y := host.New(n), host.New(n)
		noted(t, x, slices.Repeat([]api.Release{3}, n)...)
		for i, o := range []op.Op{{Kind: op.Create, A: "ann", B: "1"}, {Kind: op.Upgrade}, {Kind: op.Make, A: "dev"}} {
			if p, is := x.Apply(host.Request{Client: 1, Number: uint64(i + 1), Op: o}); p.E != api.OK || !is {
				t.Error(o, p, is)
			}
		}
		isTold(t, "the other one", y, fresh(n))
		isTold(t, "a later one", host.New(n), fresh(n))
	}
}

func TestP17_1System(t *testing.T) {
	if host.System != 255 {
		t.Error(host.System)
	}
}

// hosts are models of many hosts, with a new one of each size, and one that
// was told everything once.
func hosts() []*model {
	full := newers()
	full.users, full.groups = people(12), []string{"a", "b", "c", "d", "e", "f"}
	for i := range full.users {
		full.users[i].Groups = full.groups
		full.users[i].Mail = full.users[i].Name + "@b.c"
	}
	many := elders()
	many.users = people(12)
	empty := fresh(5)
	empty.version = 2
	return []*model{fresh(3), fresh(5), fresh(7), elders(), newers(), many, full, empty}
}

func TestP17_1Of(t *testing.T) {
	for _, m := range hosts() {
		isTold(t, "of these", m.host(t), m)
	}
}

// The board's size is the host's, and a host that Of made goes on like any
// other one.
func TestP17_1OfGoesOn(t *testing.T) {
	for _, m := range hosts() {
		h := m.host(t)
		for _, o := range all() {
			for client := range uint8(7) {
				r := host.Request{Client: client, Number: m.rows[client].number + 1, Op: o}
				want, wantIs := m.apply(r)
				p, is := h.Apply(r)
				isReply(t, op.Name(int(o.Kind)), p, want)
				if is != wantIs {
					t.Fatal(o, is)
				}
			}
			isTold(t, "goes on", h, m)
		}
	}
}

// What Of is handed stays as it was, and is apart from the host.
func TestP17_1OfIsApart(t *testing.T) {
	for _, m := range hosts() {
		x, b := m.table(t), m.board(t)
		room := append(m.dir(t), 7, 7, 7)
		was := bytes.Clone(room)
		h, e := host.Of(m.version, room[:len(room)-3], x, b)
		if e != api.OK {
			t.Fatal(e)
		}
		isTold(t, "handed in", h, m)
		if !bytes.Equal(room, was) {
			t.Errorf("the bytes became %.90q", room)
		}
		isTable(t, "the table that was handed in", x, m)
		isBoard(t, "the board that was handed in", b, m)
		changed := m.clone()
		spoil(t, h, changed)
		if !bytes.Equal(room, was) {
			t.Errorf("the bytes became %.90q", room)
		}
		isTable(t, "the host changed", x, m)
		isBoard(t, "the host changed", b, m)
		clear(room)
		for client := range uint8(8) {
			x.Put(client, x.Last(client)+1, op.Reply{L: []string{"spoilt"}})
		}
		for node := range uint8(7) {
			b.Note(node, 1)
		}
		isTold(t, "what was handed in changed", h, changed)
	}
}

// spoil does much to a host, and the same to its model.
func spoil(t *testing.T, h *host.Host, m *model) {
	t.Helper()
	system := func(node uint8) host.Request {
		return host.Request{Client: 255, Op: op.Op{Kind: 16, Node: node, Release: 3}}
	}
	var l []host.Request
	for node := range len(m.releases) {
		l = append(l, system(uint8(node)))
	}
	for client := range uint8(7) {
		n := m.rows[client].number + 10
		for i, o := range []op.Op{
			{Kind: 1, A: "ann"}, {Kind: 0, A: "zoe", B: "9"}, {Kind: 2, A: "bobby", B: "77"}, {Kind: 15},
			{Kind: 5, A: "zoe", B: "Z@b.c"}, {Kind: 9, A: "spoilt"}, {Kind: 11, A: "spoilt", B: "zoe"}, {Kind: 10, A: "dev"}, {Kind: 4},
		} {
			l = append(l, host.Request{Client: client, Number: n + uint64(i), Op: o})
		}
	}
	for _, r := range l {
		want, wantIs := m.apply(r)
		p, is := h.Apply(r)
		isReply(t, "spoil", p, want)
		if is != wantIs {
			t.Fatal(r, is)
		}
	}
	isTold(t, "spoilt", h, m)
}

// refused tells whether Of refuses these so.
func refused(t *testing.T, what string, version int, dir []byte, x *table.Table, b *advert.Board, want api.Errno) {
	t.Helper()
	if h, e := host.Of(version, dir, x, b); h != nil || e != want {
		t.Errorf("%s: version %d, %.60q: a host: %t, error %d, not %d", what, version, dir, h != nil, e, want)
	}
}

func TestP17_1OfErrArg(t *testing.T) {
	bad := [][]byte{nil, {}, {0}, {1, 0, 0}, {2, 0, 0, 0, 0}, {1, 13, 0}, {1, 0, 0, 0}, {3}}
	for _, b := range bad {
		for _, version := range []int{1, 2, 0, 3, -1, 255, math.MinInt} {
			refused(t, "no table", version, b, nil, advert.New(3), api.ErrArg)
			refused(t, "no board", version, b, table.New(), nil, api.ErrArg)
			refused(t, "neither", version, b, nil, nil, api.ErrArg)
		}
		for _, version := range []int{0, 3, 4, -1, -2, 255, 256, 257, 258, 1<<32 + 1, 1<<32 + 2, math.MaxInt, math.MinInt} {
			refused(t, "no version", version, b, table.New(), advert.New(3), api.ErrArg)
		}
	}
}

// The directory's bytes must be of the version's schema; what else is wrong
// with them is told as chapters 8 and 12 tell it.
func TestP17_1OfReadsErrors(t *testing.T) {
	x, b := table.New(), advert.New(5)
	for _, c := range []struct {
		what    string
		version int
		dir     string
		e       api.Errno
	}{
		{"none", 1, "", api.ErrShort},
		{"none", 2, "", api.ErrShort},
		{"of the other schema", 1, "\x02\x00\x00\x00\x00", api.ErrVersion},
		{"of the other schema", 2, "\x01\x00\x00", api.ErrVersion},
		{"of no schema", 1, "\x00\x00\x00", api.ErrVersion},
		{"of no schema", 2, "\x03\x00\x00\x00\x00", api.ErrVersion},
		{"too many users", 1, "\x01\x0d\x00", api.ErrFull},
		{"too many users", 2, "\x02\x00\x00\x0d\x00", api.ErrFull},
		{"too many groups", 2, "\x02\x07\x00\x00\x00", api.ErrLong},
		{"no name", 1, "\x01\x01\x00\x01\x00A\x01\x001", api.ErrName},
		{"no sum", 1, "\x01\x01\x00\x01\x00a\x01\x00g", api.ErrForm},
		{"twice", 1, "\x01\x02\x00\x01\x00a\x01\x001\x01\x00a\x01\x001", api.ErrSame},
		{"no address", 2, "\x02\x00\x00\x01\x00\x01\x00a\x01\x001\x01\x00?\x00\x00\x00", api.ErrMail},
		{"no such group", 2, "\x02\x00\x00\x01\x00\x01\x00a\x01\x001\x00\x00\x00\x01\x00\x01\x00g", api.ErrNone},
		{"bytes are left", 1, "\x01\x00\x00\x00", api.ErrLong},
		{"bytes are left", 2, "\x02\x00\x00\x00\x00\x00", api.ErrLong},
	} {
		refused(t, c.what, c.version, []byte(c.dir), x, b, c.e)
	}
	refused(t, "nil", 1, nil, x, b, api.ErrShort)
	refused(t, "nil", 2, nil, x, b, api.ErrShort)
	isTable(t, "refused", x, fresh(5))
	isBoard(t, "refused", b, fresh(5))
}

func TestP17_1OfBeginnings(t *testing.T) {
	for _, m := range hosts() {
		b := m.dir(t)
		for n := range b {
			refused(t, "a beginning", m.version, b[:n], m.table(t), m.board(t), api.ErrShort)
		}
	}
}

// What is told is the host's no more.
func TestP17_1AnswersAreCopies(t *testing.T) {
	for _, m := range hosts() {
		h := m.host(t)
		d, x, b := h.Dir(), h.Table(), h.Board()
		for range 2 {
			h.Dir()[0] = 9
			room := h.Dir()
			clear(room[:cap(room)])
			for client := range uint8(8) {
				h.Table().Put(client, most, op.Reply{L: []string{"spoilt"}})
				h.Table().Put(client, m.rows[client].number+1, op.Reply{E: 3})
			}
			for node := range uint8(7) {
				h.Board().Note(node, 1)
			}
			isTold(t, "answers changed", h, m)
		}
		spoil(t, h, m.clone())
		if !bytes.Equal(d, m.dir(t)) {
			t.Errorf("the host changed: %.90q", d)
		}
		isTable(t, "the host changed", x, m)
		isBoard(t, "the host changed", b, m)
	}
}

// Asking changes nothing.
func TestP17_1AskingChangesNothing(t *testing.T) {
	for _, m := range hosts() {
		h := m.host(t)
		for range 2 {
			h.Version()
			h.Dir()
			h.Table()
			h.Board()
			h.Copy()
			for _, o := range all() {
				for _, client := range []uint8{0, 1, 7, 8, 255} {
					h.Upgrades(host.Request{Client: client, Number: 10, Op: o})
				}
			}
			isTold(t, "asked", h, m)
		}
	}
}
