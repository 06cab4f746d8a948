package host_test

import (
	"fmt"
	"math"
	"slices"
	"strings"
	"testing"

	"interrex/api"
	"interrex/host"
	"interrex/op"
)

func TestP17_2Example(t *testing.T) {
	h, m := host.New(3), fresh(3)
	r := host.Request{Client: 0, Number: 1, Op: op.Op{Kind: op.Upgrade}}
	want := op.Reply{E: api.ErrNotReady}
	p, is := h.Apply(r)
	isReply(t, "upgrade", p, want)
	if !is {
		t.Error("it wasn't done")
	}
	m.rows[0] = row{1, want}
	isTold(t, "upgrade", h, m)
	p, is = h.Apply(r)
	isReply(t, "once more", p, want)
	if is {
		t.Error("it was done once more")
	}
	isTold(t, "once more", h, m)
}

// all are operations of all kinds, such as may be and such as may not be.
func all() []op.Op {
	texts := []string{"", "ann", "bob", "bobby", "zoe", "b", "na", "nl", "dev", "ops", "nobody", "A", "a-", "1", "0f", "g", "a@b.c", "A@B.C", "z@b.c", "b@", strings.Repeat("a", 13), strings.Repeat("1", 13), strings.Repeat("x", 62), "\xff"}
	var l []op.Op
	for kind := range uint8(18) {
		for _, a := range texts {
			l = append(l, op.Op{Kind: kind, A: a})
		}
		for _, a := range []string{"", "ann", "bob", "bobby", "zoe", "dev", "nobody", "A"} {
			for _, b := range []string{"ann", "bob", "zoe", "1", "g", "a@b.c", "Z@b.c", "?"} {
				l = append(l, op.Op{Kind: kind, A: a, B: b})
			}
		}
		for _, node := range []uint8{0, 2, 3, 4, 5, 6, 7, 255} {
			for _, r := range []api.Release{0, 1, 2, 3, 4} {
				l = append(l, op.Op{Kind: kind, Node: node, Release: r})
			}
		}
	}
	return append(l, op.Op{Kind: 255}, op.Op{Kind: 16, A: "a", Release: 1}, op.Op{Kind: 15, B: "b"})
}

// Each operation, asked of each host, by a client.
func TestP17_2EachOperation(t *testing.T) {
	met := map[string]int{}
	for _, m := range hosts() {
		h := m.host(t)
		for _, o := range all() {
			r := host.Request{Client: 1, Number: 10, Op: o}
			x, c := m.clone(), h.Copy()
			want, wantIs := x.apply(r)
			p, is := c.Apply(r)
			what := fmt.Sprint("version ", m.version, ", kind ", o.Kind, ", ", o)
			isReply(t, what, p, want)
			if is != wantIs {
				t.Fatalf("%s: done: %t", what, is)
			}
			isTold(t, what, c, x)
			met[fmt.Sprint(m.version, o.Kind, p.E)]++
		}
		isTold(t, "of which those are copies", h, m)
	}
	want := map[uint8][]api.Errno{
		op.Create: {api.OK, api.ErrName, api.ErrForm, api.ErrSame, api.ErrFull}, op.Delete: {api.OK, api.ErrName, api.ErrNone},
		op.SetHash: {api.OK, api.ErrName, api.ErrForm, api.ErrNone}, op.Lookup: {api.OK, api.ErrName, api.ErrNone}, op.List: {api.OK, api.ErrName},
		op.SetMail: {api.OK, api.ErrName, api.ErrMail, api.ErrNone, api.ErrSame}, op.Disable: {api.OK, api.ErrName, api.ErrNone, api.ErrState},
		op.Enable: {api.OK, api.ErrName, api.ErrNone, api.ErrState}, op.Rename: {api.OK, api.ErrName, api.ErrNone, api.ErrSame},
		op.Make: {api.OK, api.ErrName, api.ErrSame, api.ErrFull}, op.Drop: {api.OK, api.ErrName, api.ErrNone},
		op.Join: {api.OK, api.ErrName, api.ErrNone, api.ErrSame}, op.Leave: {api.OK, api.ErrName, api.ErrNone, api.ErrState},
		op.Find: {api.OK, api.ErrMail, api.ErrNone}, op.Members: {api.OK, api.ErrName, api.ErrNone},
	}
	for kind, errs := range want {
		for _, e := range errs {
			if met[fmt.Sprint(2, kind, e)] == 0 || kind <= op.List && met[fmt.Sprint(1, kind, e)] == 0 {
				t.Errorf("%s never told error %d", op.Name(int(kind)), e)
			}
		}
	}
	if met[fmt.Sprint(2, op.SetHash, api.ErrState)] == 0 {
		t.Error("sethash never told that a user is disabled")
	}
}

// asked is an operation, and the reply to it.
type asked struct {
	o     op.Op
	e     api.Errno
	texts []string
}

// inTurn asks them one behind the other; each is done.
func inTurn(t *testing.T, h *host.Host, l []asked) {
	t.Helper()
	n := h.Table().Last(4)
	for _, x := range l {
		n++
		p, is := h.Apply(host.Request{Client: 4, Number: n, Op: x.o})
		what := fmt.Sprint(op.Name(int(x.o.Kind)), " ", x.o)
		isReply(t, what, p, op.Reply{E: x.e, L: x.texts})
		if !is {
			t.Fatalf("%s wasn't done", what)
		}
		isReply(t, what+", as the table has it", h.Table().Reply(4), op.Reply{E: x.e, L: x.texts})
	}
}

// What is told in the first version, spelt out.
func TestP17_2FirstVersion(t *testing.T) {
	h := host.New(5)
	inTurn(t, h, []asked{
		{op.Op{Kind: op.List}, api.OK, nil},
		{op.Op{Kind: op.Create, A: "bob", B: "22"}, api.OK, nil},
		{op.Op{Kind: op.Create, A: "ann", B: "1"}, api.OK, nil},
		{op.Op{Kind: op.Create, A: "ann", B: "1"}, api.ErrSame, nil},
		{op.Op{Kind: op.Create, A: "1", B: "ann"}, api.ErrName, nil},
		{op.Op{Kind: op.Lookup, A: "bob"}, api.OK, []string{"22"}},
		{op.Op{Kind: op.Lookup, A: "zoe"}, api.ErrNone, nil},
		{op.Op{Kind: op.SetHash, A: "bob", B: "0f"}, api.OK, nil},
		{op.Op{Kind: op.Lookup, A: "bob"}, api.OK, []string{"0f"}},
		{op.Op{Kind: op.List}, api.OK, []string{"ann", "bob"}},
		{op.Op{Kind: op.List, A: "b"}, api.OK, []string{"bob"}},
		{op.Op{Kind: op.List, A: "?"}, api.ErrName, nil},
		{op.Op{Kind: op.Delete, A: "ann"}, api.OK, nil},
		{op.Op{Kind: op.Delete, A: "ann"}, api.ErrNone, nil},
		{op.Op{Kind: op.List}, api.OK, []string{"bob"}},
	})
	m := fresh(5)
	m.users = []api.User{{Name: "bob", Hash: "0f"}}
	m.rows[4] = row{15, op.Reply{L: []string{"bob"}}}
	isTold(t, "in the end", h, m)
}

// What is told in the second version, spelt out.
func TestP17_2SecondVersion(t *testing.T) {
	m := fresh(3)
	m.version = 2
	h := m.host(t)
	inTurn(t, h, []asked{
		{op.Op{Kind: op.Create, A: "bob", B: "22"}, api.OK, nil},
		{op.Op{Kind: op.Create, A: "ann", B: "1"}, api.OK, nil},
		{op.Op{Kind: op.Lookup, A: "bob"}, api.OK, []string{"22", "", "0"}},
		{op.Op{Kind: op.SetMail, A: "bob", B: "Bob@X.org"}, api.OK, nil},
		{op.Op{Kind: op.SetMail, A: "ann", B: "bob@x.org"}, api.ErrSame, nil},
		{op.Op{Kind: op.Find, A: "BOB@x.ORG"}, api.OK, []string{"bob"}},
		{op.Op{Kind: op.Find, A: "ann@x.org"}, api.ErrNone, nil},
		{op.Op{Kind: op.Find, A: "bob"}, api.ErrMail, nil},
		{op.Op{Kind: op.Enable, A: "bob"}, api.ErrState, nil},
		{op.Op{Kind: op.Disable, A: "bob"}, api.OK, nil},
		{op.Op{Kind: op.Disable, A: "bob"}, api.ErrState, nil},
		{op.Op{Kind: op.SetHash, A: "bob", B: "0f"}, api.ErrState, nil},
		{op.Op{Kind: op.Lookup, A: "bob"}, api.OK, []string{"22", "bob@x.org", "1"}},
		{op.Op{Kind: op.Enable, A: "bob"}, api.OK, nil},
		{op.Op{Kind: op.SetHash, A: "bob", B: "0f"}, api.OK, nil},
		{op.Op{Kind: op.Join, A: "dev", B: "bob"}, api.ErrNone, nil},
		{op.Op{Kind: op.Make, A: "ops"}, api.OK, nil},
		{op.Op{Kind: op.Make, A: "dev"}, api.OK, nil},
		{op.Op{Kind: op.Members, A: "dev"}, api.OK, nil},
		{op.Op{Kind: op.Join, A: "bob", B: "dev"}, api.ErrNone, nil},
		{op.Op{Kind: op.Join, A: "ops", B: "bob"}, api.OK, nil},
		{op.Op{Kind: op.Join, A: "dev", B: "bob"}, api.OK, nil},
		{op.Op{Kind: op.Join, A: "dev", B: "ann"}, api.OK, nil},
		{op.Op{Kind: op.Members, A: "dev"}, api.OK, []string{"ann", "bob"}},
		{op.Op{Kind: op.Lookup, A: "bob"}, api.OK, []string{"0f", "bob@x.org", "0", "dev", "ops"}},
		{op.Op{Kind: op.Rename, A: "bob", B: "abe"}, api.OK, nil},
		{op.Op{Kind: op.Lookup, A: "bob"}, api.ErrNone, nil},
		{op.Op{Kind: op.Lookup, A: "abe"}, api.OK, []string{"0f", "bob@x.org", "0", "dev", "ops"}},
		{op.Op{Kind: op.Leave, A: "dev", B: "abe"}, api.OK, nil},
		{op.Op{Kind: op.Leave, A: "dev", B: "abe"}, api.ErrState, nil},
		{op.Op{Kind: op.Members, A: "dev"}, api.OK, []string{"ann"}},
		{op.Op{Kind: op.Drop, A: "dev"}, api.OK, nil},
		{op.Op{Kind: op.Members, A: "dev"}, api.ErrNone, nil},
		{op.Op{Kind: op.List, A: "a"}, api.OK, []string{"abe", "ann"}},
		{op.Op{Kind: op.SetMail, A: "abe"}, api.OK, nil},
		{op.Op{Kind: op.Lookup, A: "abe"}, api.OK, []string{"0f", "", "0", "ops"}},
		{op.Op{Kind: op.Delete, A: "ann"}, api.OK, nil},
		{op.Op{Kind: op.List}, api.OK, []string{"abe"}},
	})
	m.users, m.groups = []api.User{{Name: "abe", Hash: "0f", Groups: []string{"ops"}}}, []string{"ops"}
	m.rows[4] = row{38, op.Reply{L: []string{"abe"}}}
	isTold(t, "in the end", h, m)
}

// As many groups as may be are told of a user, and as many names.
func TestP17_2AsManyAsMayBe(t *testing.T) {
	m := fresh(7)
	m.version, m.users, m.groups = 2, people(12), []string{"a", "b", "c", "d", "e", "f"}
	var names []string
	for i, u := range m.users {
		m.users[i].Groups = m.groups
		names = append(names, u.Name)
	}
	h := m.host(t)
	inTurn(t, h, []asked{
		{op.Op{Kind: op.Lookup, A: "na"}, api.OK, []string{"0", "", "0", "a", "b", "c", "d", "e", "f"}},
		{op.Op{Kind: op.List, A: "n"}, api.OK, names},
		{op.Op{Kind: op.Members, A: "f"}, api.OK, names},
	})
}

// What the second schema alone knows is refused in the first version, whatever
// it is given.
func TestP17_2ErrVersion(t *testing.T) {
	for kind := op.SetMail; kind <= op.Members; kind++ {
		h := elders().host(t)
		for i, a := range []string{"ann", "", "zoe", "A", "a@b.c", "?", strings.Repeat("x", 59)} {
			m := elders()
			m.rows[1] = row{uint64(i + 1), op.Reply{E: api.ErrVersion}}
			p, is := h.Apply(host.Request{Client: 1, Number: uint64(i + 1), Op: op.Op{Kind: kind, A: a}})
			isReply(t, op.Name(int(kind)), p, op.Reply{E: api.ErrVersion})
			if !is {
				t.Errorf("%s %q wasn't done", op.Name(int(kind)), a)
			}
			isTold(t, op.Name(int(kind)), h, m)
		}
	}
}

// each goes through all boards that there are of n nodes.
func each(n int, deed func(l []api.Release)) {
	for i := range 1 << (2 * n) {
		l := make([]api.Release, n)
		for node := range l {
			l[node] = api.Release(i >> (2 * node) & 3)
		}
		deed(l)
	}
}

// An upgrade works just if each node is known to know the second schema.
func TestP17_2UpgradeByBoards(t *testing.T) {
	for _, n := range sizes {
		worked := 0
		each(n, func(l []api.Release) {
			m := fresh(n)
			m.releases = l
			h := m.host(t)
			r := host.Request{Client: 3, Number: 1, Op: op.Op{Kind: op.Upgrade}}
			lacks := slices.Contains(l, 0) || slices.Contains(l, 1)
			if h.Upgrades(r) == lacks {
				t.Fatalf("board %d: it upgrades: %t", l, !lacks)
			}
			want := op.Reply{}
			if lacks {
				want.E = api.ErrNotReady
			} else {
				m.version = 2
				worked++
			}
			p, is := h.Apply(r)
			isReply(t, fmt.Sprint("board ", l), p, want)
			if !is {
				t.Fatalf("board %d: it wasn't done", l)
			}
			m.rows[3] = row{1, want}
			isTold(t, fmt.Sprint("board ", l), h, m)
		})
		if worked != 1<<n {
			t.Errorf("of %d nodes it worked %d times", n, worked)
		}
	}
}

// The directory is migrated; all else stays.
func TestP17_2UpgradeMigrates(t *testing.T) {
	for users := range 13 {
		m := elders()
		m.users, m.releases = people(users), []api.Release{2, 3, 2}
		h := m.host(t)
		p, is := h.Apply(host.Request{Client: 1, Number: 5, Op: op.Op{Kind: op.Upgrade}})
		isReply(t, "upgrade", p, op.Reply{})
		if !is {
			t.Error("it wasn't done")
		}
		m.version, m.rows[1] = 2, row{5, op.Reply{}}
		isTold(t, "migrated", h, m)
	}
}

// An upgrade behind one that worked is refused, whatever the board tells.
func TestP17_2ErrUpgraded(t *testing.T) {
	for _, releases := range [][]api.Release{{0, 0, 0}, {1, 1, 1}, {1, 3, 3}, {2, 3, 3}, {3, 3, 3}} {
		m := newers()
		m.releases = releases
		h := m.host(t)
		for n := range uint64(3) {
			r := host.Request{Client: 1, Number: n + 1, Op: op.Op{Kind: op.Upgrade}}
			if h.Upgrades(r) {
				t.Error("it upgrades")
			}
			p, is := h.Apply(r)
			isReply(t, "upgrade", p, op.Reply{E: api.ErrUpgraded})
			if !is {
				t.Error("it wasn't done")
			}
			m.rows[1] = row{n + 1, op.Reply{E: api.ErrUpgraded}}
			isTold(t, "upgraded", h, m)
		}
	}
}

// A node that goes back to an elder binary doesn't lead the directory back,
// nor away from the second version.
func TestP17_2AdvertiseBehindTheUpgrade(t *testing.T) {
	m := newers()
	h := m.host(t)
	noted(t, h, 1, 1, 1, 1, 1)
	m.releases = []api.Release{1, 1, 1, 1, 1}
	isTold(t, "all are old", h, m)
	inTurn(t, h, []asked{{op.Op{Kind: op.Upgrade}, api.ErrUpgraded, nil}, {op.Op{Kind: op.Find, A: "a@b.c"}, api.OK, []string{"ann"}}})
}

// No client advertises, in neither version, not for any node.
func TestP17_2AdvertiseByClients(t *testing.T) {
	for _, m := range []*model{elders(), newers()} {
		h := m.host(t)
		for client := range uint8(8) {
			if m.rows[client].number == most {
				continue
			}
			for node := range uint8(7) {
				for r := api.Release(1); r <= 3; r++ {
					m.rows[client].number++
					m.rows[client].reply = op.Reply{E: api.ErrArg}
					p, is := h.Apply(host.Request{Client: client, Number: m.rows[client].number, Op: op.Op{Kind: 16, Node: node, Release: r}})
					isReply(t, "advertise", p, op.Reply{E: api.ErrArg})
					if !is {
						t.Error("it wasn't done")
					}
					isTold(t, "advertise", h, m)
				}
			}
		}
	}
}

// System advertises for each node that there is, in either version; the table
// stays.
func TestP17_2AdvertiseBySystem(t *testing.T) {
	for version := 1; version <= 2; version++ {
		for _, n := range sizes {
			m := elders()
			m.version, m.releases = version, make([]api.Release, n)
			h := m.host(t)
			for node := range uint8(7) {
				for _, r := range []api.Release{1, 2, 3, 3, 1, 2} {
					want := op.Reply{E: api.ErrArg}
					if int(node) < n {
						want.E, m.releases[node] = api.OK, r
					}
					p, is := h.Apply(host.Request{Client: 255, Op: op.Op{Kind: 16, Node: node, Release: r}})
					isReply(t, "advertise", p, want)
					if !is {
						t.Errorf("node %d of %d: it wasn't done", node, n)
					}
					isTold(t, "advertise", h, m)
				}
			}
		}
	}
}

// Whatever else System asks isn't done.
func TestP17_2SystemsErrors(t *testing.T) {
	for _, m := range []*model{elders(), newers()} {
		h := m.host(t)
		no := func(r host.Request) {
			t.Helper()
			if h.Upgrades(r) {
				t.Error(r, "upgrades")
			}
			p, is := h.Apply(r)
			isReply(t, fmt.Sprint(r), p, op.Reply{E: api.ErrArg})
			if is {
				t.Error(r, "was done")
			}
		}
		for _, o := range all() {
			for _, n := range []uint64{1, 2, 10, most, most + 1, math.MaxUint64, 1 << 32, 1 << 8} {
				no(host.Request{Client: 255, Number: n, Op: o})
			}
			if o.Kind != 16 || op.Check(o) != api.OK {
				no(host.Request{Client: 255, Op: o})
			}
		}
		isTold(t, "System's", h, m)
	}
}

// Of a client that there isn't nothing is done, nor by a number that may not
// be.
func TestP17_2None(t *testing.T) {
	for _, m := range []*model{elders(), newers()} {
		m.releases = []api.Release{3, 3, 3}
		h := m.host(t)
		no := func(client uint8, number uint64, o op.Op) {
			t.Helper()
			r := host.Request{Client: client, Number: number, Op: o}
			if h.Upgrades(r) {
				t.Error(r, "upgrades")
			}
			p, is := h.Apply(r)
			isReply(t, fmt.Sprint(r), p, op.Reply{E: api.ErrArg})
			if is {
				t.Error(r, "was done")
			}
		}
		for _, o := range []op.Op{{Kind: op.Create, A: "zoe", B: "1"}, {Kind: op.Upgrade}, {Kind: op.Advertise, Release: 1}, {Kind: 17}, {Kind: op.List, A: strings.Repeat("x", 99)}} {
			for client := 8; client < 255; client++ {
				for _, n := range []uint64{0, 1, 2, most, most + 1, math.MaxUint64} {
					no(uint8(client), n, o)
				}
			}
			for client := range uint8(8) {
				for _, n := range []uint64{0, most + 1, most * 2, 1 << 63, math.MaxUint64} {
					no(client, n, o)
				}
			}
		}
		isTold(t, "none", h, m)
	}
}

// What was done isn't done once more, and what is below it not at all,
// whatever is asked by that number.
func TestP17_2StaleAndAgain(t *testing.T) {
	for _, m := range []*model{elders(), newers()} {
		m.releases = []api.Release{3, 3, 3}
		h := m.host(t)
		for client, x := range m.rows {
			for _, o := range all() {
				for _, n := range []uint64{1, 2, x.number / 2, x.number - 1, x.number} {
					if n == 0 || n > x.number {
						continue
					}
					want := op.Reply{E: api.ErrState}
					if n == x.number {
						want = x.reply
					}
					r := host.Request{Client: uint8(client), Number: n, Op: o}
					if h.Upgrades(r) {
						t.Error(r, "upgrades")
					}
					p, is := h.Apply(r)
					isReply(t, fmt.Sprint(r), p, want)
					if is {
						t.Error(r, "was done")
					}
				}
			}
		}
		isTold(t, "stale and again", h, m)
	}
}

// Numbers may leave some out, up to the last one; clients are apart.
func TestP17_2Next(t *testing.T) {
	h, m := host.New(3), fresh(3)
	for _, n := range []uint64{1, 2, 3, 10, 11, 1 << 8, 1 << 16, 1 << 32, 1<<32 + 1, most - 1, most} {
		for client := range uint8(8) {
			a := fmt.Sprint("n", client)
			kind := op.Create
			if n%2 == 0 {
				kind = op.Delete
			}
			r := host.Request{Client: client, Number: n, Op: op.Op{Kind: kind, A: a}}
			if kind == op.Create {
				r.Op.B = "1"
			}
			want, _ := m.apply(r)
			p, is := h.Apply(r)
			isReply(t, fmt.Sprint(r), p, want)
			if !is {
				t.Error(r, "wasn't done")
			}
			isTold(t, fmt.Sprint(r), h, m)
		}
	}
}

// An operation that may not be is answered with Check's error, and that is
// put: asked once more, it is told again.
func TestP17_2WhatMayNotBe(t *testing.T) {
	long := strings.Repeat("x", 62)
	for _, m := range []*model{elders(), newers()} {
		h := m.host(t)
		for _, c := range []struct {
			o op.Op
			e api.Errno
		}{
			{op.Op{Kind: 17}, api.ErrForm}, {op.Op{Kind: 255}, api.ErrForm},
			{op.Op{Kind: op.Delete, A: "ann", B: "1"}, api.ErrForm}, {op.Op{Kind: op.Upgrade, A: "a"}, api.ErrForm},
			{op.Op{Kind: op.Upgrade, Node: 1}, api.ErrForm}, {op.Op{Kind: op.Upgrade, Release: 3}, api.ErrForm},
			{op.Op{Kind: op.Lookup, A: "ann", Release: 1}, api.ErrForm}, {op.Op{Kind: op.Find, A: "a@b.c", B: "b"}, api.ErrForm},
			{op.Op{Kind: op.Advertise, Node: 7, Release: 1}, api.ErrForm}, {op.Op{Kind: op.Advertise}, api.ErrForm},
			{op.Op{Kind: op.List, A: long}, api.ErrLong}, {op.Op{Kind: op.Find, A: long}, api.ErrLong},
			{op.Op{Kind: op.Create, A: "ann", B: long}, api.ErrLong}, {op.Op{Kind: op.Rename, A: long, B: long}, api.ErrLong},
		} {
			m.rows[6].number++
			m.rows[6].reply = op.Reply{E: c.e}
			r := host.Request{Client: 6, Number: m.rows[6].number, Op: c.o}
			for _, first := range []bool{true, false, false} {
				if h.Upgrades(r) {
					t.Error(r, "upgrades")
				}
				p, is := h.Apply(r)
				isReply(t, fmt.Sprint(r), p, op.Reply{E: c.e})
				if is != first {
					t.Error(r, "done:", is)
				}
				isTold(t, fmt.Sprint(r), h, m)
			}
		}
	}
}

// Upgrades tells what Apply would do, of each client, number and operation,
// in whatever a host is.
func TestP17_2Upgrades(t *testing.T) {
	would := 0
	for _, m := range hosts() {
		for _, r := range []api.Release{0, 1, 2, 3} {
			x := m.clone()
			for node := range x.releases {
				x.releases[node] = r
			}
			h := x.host(t)
			for _, o := range append(all(), op.Op{Kind: 15}) {
				for _, client := range []uint8{0, 1, 7, 8, 254, 255} {
					for _, n := range []uint64{0, 1, 7, 8, most, most + 1} {
						r := host.Request{Client: client, Number: n, Op: o}
						y := x.clone()
						y.apply(r)
						want := x.version == 1 && y.version == 2
						if is := h.Upgrades(r); is != want {
							t.Fatalf("%v: %t", r, is)
						}
						if want {
							would++
						}
					}
				}
			}
			isTold(t, "asked", h, x)
		}
	}
	if would < 50 {
		t.Error("just", would, "would upgrade")
	}
}
