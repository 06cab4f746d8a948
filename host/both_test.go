package host_test

import (
	"fmt"
	"runtime"
	"slices"
	"strings"
	"testing"

	"interrex/api"
	"interrex/host"
	"interrex/op"
)

// some is one of them, thrown.
func some(d *dice, l ...string) string { return l[d.below(len(l))] }

// operation is a thrown one, mostly such as works.
func (d *dice) operation() op.Op {
	o := op.Op{Kind: uint8(d.below(15))}
	if d.below(3) == 0 {
		o.Kind = op.Create
	}
	who := fmt.Sprint("n", d.below(14))
	group := fmt.Sprint("g", d.below(8))
	mail := fmt.Sprint(some(d, "a", "B", "c", "d"), "@", some(d, "b", "B"), ".c")
	switch o.Kind {
	case op.Create, op.SetHash:
		o.A, o.B = who, fmt.Sprintf("%x", d.below(300))
	case op.SetMail:
		o.A, o.B = who, some(d, mail, mail, "")
	case op.Rename:
		o.A, o.B = who, fmt.Sprint("n", d.below(14))
	case op.Join, op.Leave:
		o.A, o.B = group, who
	case op.Make, op.Drop, op.Members:
		o.A = group
	case op.Find:
		o.A = mail
	case op.List:
		o.A = some(d, "", "n", "n1", who)
	default:
		o.A = who
	}
	if d.below(12) == 0 {
		o.A = some(d, "", "A", "?", "a@b", strings.Repeat("x", 70))
	}
	if d.below(12) == 0 {
		o.B = some(d, "", "A", "?", "g", strings.Repeat("1", 13))
	}
	return o
}

// thrown are the releases that System says, mostly such as let an upgrade work.
var thrown = []api.Release{0, 1, 2, 3, 2, 3, 2, 3, 2, 3}

// request is a thrown one: of all clients, by numbers near to their last ones,
// with an upgrade or an advertise now and then.
func (d *dice) request(m *model) host.Request {
	r := host.Request{Client: uint8(d.below(9)), Op: d.operation()}
	var last uint64
	if r.Client < 8 {
		last = m.rows[r.Client].number
	}
	r.Number = last + uint64(d.below(3))
	if d.below(6) == 0 {
		r.Number = last - min(last, uint64(d.below(4)))
	}
	switch d.below(20) {
	case 0:
		r.Op = op.Op{Kind: op.Upgrade}
	case 1, 2:
		r.Op = op.Op{Kind: op.Advertise, Node: uint8(d.below(8)), Release: thrown[d.below(len(thrown))]}
		r.Client, r.Number = 255, uint64(max(0, d.below(8)-6))
	case 3:
		r.Op = op.Op{Kind: op.Advertise, Node: uint8(d.below(7)), Release: 3}
	case 4:
		r.Client = uint8(d.below(256))
	}
	return r
}

// Many requests, one behind the other; hosts with the same bytes tell the same.
func TestP17_3ManyRequests(t *testing.T) {
	d := dice(17)
	upgrades := 0
	met := map[string]int{}
	for i := range 40 {
		m := fresh(sizes[i%3])
		h := host.New(sizes[i%3])
		for range 500 {
			r := d.request(m)
			before := m.clone()
			again, apart := before.host(t), h.Copy()
			want, wantIs := m.apply(r)
			what := fmt.Sprint("version ", before.version, ", ", r)
			works := before.version == 1 && m.version == 2
			if h.Upgrades(r) != works || again.Upgrades(r) != works {
				t.Fatalf("%s: not %t", what, works)
			}
			for _, x := range []*host.Host{h, again} {
				p, is := x.Apply(r)
				isReply(t, what, p, want)
				if is != wantIs {
					t.Fatalf("%s: done: %t", what, is)
				}
				isTold(t, what, x, m)
			}
			isTold(t, "a copy ahead of it", apart, before)
			met[fmt.Sprint(before.version, " ", r.Op.Kind, " ", want.E)]++
			if works {
				upgrades++
			}
		}
		if m.version != h.Version() {
			t.Error("version", h.Version())
		}
	}
	if upgrades < 20 {
		t.Error("just", upgrades, "upgraded")
	}
	for kind := range 17 {
		if met[fmt.Sprint(2, " ", kind, " ", api.OK)] == 0 && kind != 15 {
			t.Error(op.Name(kind), "never worked")
		}
	}
}

// A reply with an error changes nothing but the table, and what isn't done
// changes nothing, wherever it comes.
func TestP17_3Refused(t *testing.T) {
	d := dice(18)
	errors, not := 0, 0
	for i := range 20 {
		m := fresh(sizes[i%3])
		h := host.New(sizes[i%3])
		for range 400 {
			r := d.request(m)
			m.apply(r)
			version, dir, board, tables := h.Version(), string(h.Dir()), h.Board(), h.Table()
			p, is := h.Apply(r)
			if p.E == api.OK && is {
				continue
			}
			same := slices.Equal(board.Lacking(2), h.Board().Lacking(2)) && slices.Equal(board.Lacking(1), h.Board().Lacking(1))
			if h.Version() != version || string(h.Dir()) != dir || !same {
				t.Fatal(r, "changed something")
			}
			if !is || r.Client == 255 {
				not++
				for client := range uint8(8) {
					if h.Table().Last(client) != tables.Last(client) || !op.Same(h.Table().Reply(client), tables.Reply(client)) {
						t.Fatal(r, "changed the table")
					}
				}
				continue
			}
			errors++
			if h.Table().Last(r.Client) != r.Number || h.Table().Reply(r.Client).E != p.E {
				t.Fatal(r, "isn't in the table")
			}
		}
	}
	if errors < 500 || not < 500 {
		t.Error(errors, not)
	}
}

// Wherever an upgrade stands among requests that both schemas know, all ahead
// of it and behind it lead to the same names and sums.
func TestP17_3WhereverItUpgrades(t *testing.T) {
	d := dice(19)
	var l []op.Op
	for len(l) < 40 {
		if o := d.operation(); o.Kind < op.Lookup && op.Check(o) == api.OK {
			l = append(l, o)
		}
	}
	m := fresh(3)
	for i, o := range l {
		m.apply(host.Request{Client: 2, Number: uint64(i + 1), Op: o})
	}
	m.version, m.releases = 2, []api.Release{3, 3, 3}
	for at := range len(l) {
		h := host.New(3)
		noted(t, h, 3, 3, 3)
		for i, o := range l {
			if i == at {
				h.Apply(host.Request{Client: 5, Number: 1, Op: op.Op{Kind: op.Upgrade}})
			}
			h.Apply(host.Request{Client: 2, Number: uint64(i + 1), Op: o})
		}
		x := m.clone()
		x.rows[5].number = 1
		isTold(t, fmt.Sprint("at ", at), h, x)
	}
}

// What is done to a host isn't done to its copy, nor the other way round.
func TestP17_3Copy(t *testing.T) {
	for _, m := range hosts() {
		h := m.host(t)
		c := h.Copy()
		if c == h {
			t.Fatal("the same one")
		}
		isTold(t, "copied", c, m)
		x, y := m.clone(), m.clone()
		spoil(t, h, x)
		isTold(t, "the copy stays", c, m)
		d := c.Copy()
		spoil(t, c, y)
		isTold(t, "the first stays", h, x)
		isTold(t, "a copy's copy stays", d, m)
	}
}

// An upgrade of one doesn't upgrade the other one.
func TestP17_3CopyUpgrades(t *testing.T) {
	m := elders()
	m.releases = []api.Release{3, 2, 3}
	h := m.host(t)
	c := h.Copy()
	r := host.Request{Client: 1, Number: 1, Op: op.Op{Kind: op.Upgrade}}
	if !c.Upgrades(r) || !h.Upgrades(r) {
		t.Error("they don't upgrade")
	}
	c.Apply(r)
	isTold(t, "the first stays", h, m)
	m.apply(r)
	isTold(t, "the copy", c, m)
}

// spread writes over all of a list's room.
func spread(l []string) {
	l = l[:cap(l)]
	for i := range l {
		l[i] = "other"
	}
}

// Replies are new memory: what was put stays, and so does the directory.
func TestP17_3RepliesAreNewMemory(t *testing.T) {
	for _, m := range hosts() {
		h := m.host(t)
		for n, o := range []op.Op{{Kind: op.Lookup, A: "ann"}, {Kind: op.Lookup, A: "na"}, {Kind: op.List}, {Kind: op.Members, A: "dev"}, {Kind: op.Members, A: "a"}, {Kind: op.Find, A: "a@b.c"}} {
			r := host.Request{Client: 1, Number: uint64(n + 1), Op: o}
			want, _ := m.apply(r)
			want.L = slices.Clone(want.L)
			one, _ := h.Apply(r)
			two, _ := h.Apply(r)
			three, _ := h.Apply(r)
			isReply(t, "told", one, want)
			spread(one.L)
			isReply(t, "another one", two, want)
			spread(two.L)
			isReply(t, "a third one", three, want)
			spread(h.Table().Reply(1).L)
			isTold(t, "replies changed", h, m)
		}
		c := h.Copy()
		p, _ := c.Apply(host.Request{Client: 1, Number: 6})
		spread(p.L)
		isTold(t, "the copy's reply changed", h, m)
		isTold(t, "the copy's reply changed", c, m)
	}
}

// room is how much memory is in use.
func room() uint64 {
	var m runtime.MemStats
	runtime.GC()
	runtime.ReadMemStats(&m)
	return m.HeapAlloc
}

// cut is a text that is a piece of a long one.
func cut(s string) string { return (s + strings.Repeat(" ", 1<<24))[:len(s)] }

// Of the long texts that an operation's are pieces of nothing stays, in either
// version.
func TestP17_3HandedInIsNotKept(t *testing.T) {
	h := host.New(3)
	noted(t, h, 3, 3, 3)
	n := uint64(0)
	do := func(o op.Op) {
		t.Helper()
		n++
		if p, is := h.Apply(host.Request{Client: 0, Number: n, Op: o}); p.E != api.OK || !is {
			t.Fatal(o, p, is)
		}
	}
	was := room()
	small := func(what string) {
		t.Helper()
		if now := room(); now > was+1<<23 {
			t.Errorf("%s: so much more is in use: %d", what, now-was)
		}
	}
	do(op.Op{Kind: op.Create, A: cut("ann"), B: cut("1")})
	do(op.Op{Kind: op.SetHash, A: cut("ann"), B: cut("2")})
	do(op.Op{Kind: op.Lookup, A: cut("ann")})
	small("first version")
	do(op.Op{Kind: op.Upgrade})
	do(op.Op{Kind: op.Create, A: cut("bob"), B: cut("3")})
	do(op.Op{Kind: op.SetHash, A: cut("ann"), B: cut("4")})
	do(op.Op{Kind: op.SetMail, A: cut("ann"), B: cut("a@b.c")})
	do(op.Op{Kind: op.Rename, A: cut("bob"), B: cut("cid")})
	do(op.Op{Kind: op.Make, A: cut("dev")})
	do(op.Op{Kind: op.Join, A: cut("dev"), B: cut("cid")})
	do(op.Op{Kind: op.Find, A: cut("a@b.c")})
	small("second version")
	m := fresh(3)
	m.version, m.releases, m.groups = 2, []api.Release{3, 3, 3}, []string{"dev"}
	m.users = []api.User{{Name: "ann", Hash: "4", Mail: "a@b.c"}, {Name: "cid", Hash: "3", Groups: []string{"dev"}}}
	m.rows[0] = row{n, op.Reply{L: []string{"ann"}}}
	isTold(t, "pieces", h, m)
}
