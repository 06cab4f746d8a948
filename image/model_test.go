package image_test

import (
	"bytes"
	"fmt"
	"slices"
	"strings"
	"testing"

	"interrex/advert"
	"interrex/api"
	"interrex/host"
	"interrex/image"
	"interrex/octet"
	"interrex/op"
	"interrex/table"
)

// most is the highest number of a request.
const most = 1 << 40

// sizes are how many nodes a host may have.
var sizes = []int{3, 5, 7}

// dice are numbers that come by no rule that a host could know, the same ones
// each time.
type dice uint64

func (d *dice) below(n int) int {
	*d = *d*6364136223846793005 + 1442695040888963407
	return int(uint64(*d) >> 33 % uint64(n))
}

// row is what one client was answered last.
type row struct {
	number uint64
	e      api.Errno
	texts  []string
}

// model is what a host has.
type model struct {
	version  int
	users    []api.User
	groups   []string
	rows     [8]row
	releases []api.Release
}

// fresh is what a new host has.
func fresh(n int) model { return model{version: 1, releases: make([]api.Release, n)} }

// number is a number of so many bytes.
func number(x uint64, size int) string {
	b := make([]byte, size)
	for i := range b {
		b[i] = byte(x >> (8 * i))
	}
	return string(b)
}

// text is a text's bytes.
func text(s string) string { return number(uint64(len(s)), 2) + s }

// list is a row of texts.
func list(l []string) string {
	b := number(uint64(len(l)), 2)
	for _, s := range l {
		b += text(s)
	}
	return b
}

// zeros are so many of them.
func zeros(n int) string { return strings.Repeat("\x00", n) }

// spelt is a row's bytes.
func (r row) spelt() string {
	if r.number == 0 {
		return zeros(8)
	}
	return number(r.number, 8) + text(number(uint64(r.e), 1)+list(r.texts))
}

// dir is a directory's bytes.
func (m model) dir() string {
	b := number(uint64(m.version), 1)
	if m.version == 2 {
		b += list(m.groups)
	}
	b += number(uint64(len(m.users)), 2)
	for _, u := range m.users {
		b += text(u.Name) + text(u.Hash)
		if m.version == 2 {
			b += text(u.Mail) + map[bool]string{false: "\x00", true: "\x01"}[u.Disabled] + list(u.Groups)
		}
	}
	return b
}

// table is a table's bytes.
func (m model) table() string {
	var b string
	for _, r := range m.rows {
		b += r.spelt()
	}
	return b
}

// board is a board's bytes.
func (m model) board() string {
	b := number(uint64(len(m.releases)), 1)
	for _, r := range m.releases {
		b += number(uint64(r), 1)
	}
	return b
}

// spelt is a host's bytes, told by the document alone.
func (m model) spelt() string {
	return number(uint64(m.version), 1) + text(m.dir()) + m.table() + m.board()
}

// host is one that has what the model has.
func (m model) host(t *testing.T) *host.Host {
	t.Helper()
	x, b := table.New(), advert.New(len(m.releases))
	for client, r := range m.rows {
		if r.number > 0 && x.Put(uint8(client), r.number, op.Reply{E: r.e, L: r.texts}) != api.OK {
			t.Fatalf("the model may not be: number %d", r.number)
		}
	}
	for node, r := range m.releases {
		if r > 0 && b.Note(uint8(node), r) != api.OK {
			t.Fatalf("the model may not be: release %d", r)
		}
	}
	h, e := host.Of(m.version, []byte(m.dir()), x, b)
	if e != api.OK {
		t.Fatalf("the model may not be: error %d", e)
	}
	return h
}

// isTold asks a host for all that a model has.
func isTold(t *testing.T, what string, h *host.Host, m model) {
	t.Helper()
	if h == nil {
		t.Fatalf("%s: there is no host", what)
	}
	if h.Version() != m.version || string(h.Dir()) != m.dir() {
		t.Fatalf("%s: version %d, %.200q; not %d, %.200q", what, h.Version(), h.Dir(), m.version, m.dir())
	}
	for client, r := range m.rows {
		n, p := h.Table().Last(uint8(client)), h.Table().Reply(uint8(client))
		if n != r.number || p.E != r.e || !slices.Equal(p.L, r.texts) {
			t.Fatalf("%s: client %d: %d, error %d, %.90q; not %d, %d, %.90q", what, client, n, p.E, p.L, r.number, r.e, r.texts)
		}
	}
	if n := h.Board().Nodes(); n != len(m.releases) {
		t.Fatalf("%s: %d nodes, not %d", what, n, len(m.releases))
	}
	for node, r := range m.releases {
		if got := h.Board().Of(uint8(node)); got != r {
			t.Fatalf("%s: node %d: release %d, not %d", what, node, got, r)
		}
	}
}

// elders is a model of the first schema, with something of everything.
func elders() model {
	m := fresh(3)
	m.users = []api.User{{Name: "ann", Hash: "1"}, {Name: "bob", Hash: "22"}, {Name: "bobby", Hash: "3"}}
	m.rows = [8]row{0: {7, api.OK, []string{"22"}}, 2: {1, api.ErrNone, nil}, 5: {9, api.OK, nil}, 7: {most, api.OK, []string{"ann", "", "\xff"}}}
	m.releases = []api.Release{1, 0, 3}
	return m
}

// newers is a model of the second schema, with something of everything.
func newers() model {
	m := elders()
	m.version = 2
	m.users[0].Mail, m.users[0].Groups = "a@b.c", []string{"dev", "ops"}
	m.users[1].Disabled, m.users[1].Groups = true, []string{"dev"}
	m.users[2].Mail = "bobby@x.org"
	m.groups = []string{"dev", "nobody", "ops"}
	m.rows[1] = row{1 << 39, api.ErrBusy, nil}
	m.releases = []api.Release{2, 3, 3, 2, 1}
	return m
}

// letters are a text of so many of one letter, and another one behind them.
func letters(n int, behind rune) string { return strings.Repeat("a", n-1) + string(behind) }

// full is a model that has all that it may have, with such replies as no host
// gives, but that a table may have.
func full(version, nodes int) model {
	m := model{version: version, releases: slices.Repeat([]api.Release{3}, nodes)}
	for i := range 12 {
		m.users = append(m.users, api.User{Name: letters(12, 'a'+rune(i)), Hash: strings.Repeat("f", 12)})
	}
	for i := range m.rows {
		m.rows[i] = row{most - uint64(i), api.OK, []string{strings.Repeat("x", 398)}}
	}
	if version == 1 {
		return m
	}
	for i := range 6 {
		m.groups = append(m.groups, letters(12, 'a'+rune(i)))
	}
	for i := range m.users {
		m.users[i].Groups, m.users[i].Mail, m.users[i].Disabled = m.groups, letters(12, 'a'+rune(i))+"@abc.def", true
	}
	return m
}

// hosts are models of many hosts.
func hosts() []model {
	empty := fresh(5)
	empty.version = 2
	wide := fresh(7)
	wide.rows[3] = row{5, api.OK, make([]string, 400)}
	wide.rows[4] = row{1, api.OK, []string{strings.Repeat("y", 400)}}
	l := []model{fresh(3), fresh(5), fresh(7), elders(), newers(), empty, wide}
	for _, n := range sizes {
		l = append(l, full(1, n), full(2, n))
	}
	return l
}

// split tells a host's bytes out of its own parts, each asked by itself.
func split(h *host.Host) []byte {
	var w octet.Writer
	w.Byte(uint8(h.Version())).Text(string(h.Dir()))
	h.Table().Write(&w)
	h.Board().Write(&w)
	return w.Bytes()
}

// read reads bytes that are a host's.
func read(t *testing.T, what string, b []byte) *host.Host {
	t.Helper()
	h, e := image.Read(b)
	if h == nil || e != api.OK {
		t.Fatalf("%s: %.90q: a host: %t, error %d", what, b, h != nil, e)
	}
	return h
}

// refused tells whether bytes are refused so.
func refused(t *testing.T, what, b string, want api.Errno) {
	t.Helper()
	if h, e := image.Read([]byte(b)); h != nil || e != want {
		t.Errorf("%s: %.90q (%d): a host: %t, error %d, not %d", what, b, len(b), h != nil, e, want)
	}
}

// operation is a thrown one, mostly such as works.
func (d *dice) operation() op.Op {
	o := op.Op{Kind: uint8(d.below(15))}
	if d.below(3) == 0 {
		o.Kind = op.Create
	}
	o.A = fmt.Sprint("n", d.below(14))
	switch o.Kind {
	case op.Create, op.SetHash:
		o.B = fmt.Sprintf("%x", d.below(300))
	case op.SetMail:
		o.B = fmt.Sprint("m", d.below(5), "@B.c")
	case op.Rename:
		o.B = fmt.Sprint("n", d.below(14))
	case op.Join, op.Leave:
		o.A, o.B = fmt.Sprint("g", d.below(8)), o.A
	case op.Make, op.Drop, op.Members:
		o.A = fmt.Sprint("g", d.below(8))
	case op.Find:
		o.A = fmt.Sprint("m", d.below(5), "@b.c")
	case op.List:
		o.A = "n1"[:d.below(3)]
	}
	if d.below(20) == 0 {
		o.A = strings.Repeat("x", d.below(70))
	}
	return o
}

// request is a thrown one: of all clients, with an upgrade or an advertise now
// and then.
func (d *dice) request(h *host.Host) host.Request {
	client := uint8(d.below(8))
	r := host.Request{Client: client, Number: h.Table().Last(client) + uint64(d.below(4)), Op: d.operation()}
	switch d.below(20) {
	case 0:
		r.Op = op.Op{Kind: op.Upgrade}
	case 1, 2, 3:
		r = host.Request{Client: 255, Op: op.Op{Kind: op.Advertise, Node: uint8(d.below(7)), Release: api.Release(max(1, d.below(9)-5))}}
		if r.Op.Release < 2 && d.below(3) > 0 {
			r.Op.Release = 3
		}
	}
	return r
}

// same holds two hosts against each other, by all that they tell.
func same(a, b *host.Host) bool { return bytes.Equal(split(a), split(b)) }
