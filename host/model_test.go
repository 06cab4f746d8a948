package host_test

import (
	"bytes"
	"slices"
	"strings"
	"testing"

	"interrex/advert"
	"interrex/api"
	"interrex/elder"
	"interrex/folio"
	"interrex/host"
	"interrex/name"
	"interrex/newer"
	"interrex/op"
	"interrex/shot"
	"interrex/table"
	"interrex/user"
)

// most is the highest number of a request.
const most = 1 << 40

// sizes are how many nodes a host may have.
var sizes = []int{3, 5, 7}

// dice are numbers that come by no rule that a host could know, the same ones
// each time.
type dice uint64

func (d *dice) below(n int) int {
	*d = *d*6364136223846793005 + 1442695040888963407
	return int(uint64(*d) >> 33 % uint64(n))
}

// row is what is to be told of one client.
type row struct {
	number uint64
	reply  op.Reply
}

// model is what is to be told of a host, and does as one, told another way: by
// users and groups in rows, that rise.
type model struct {
	version  int
	users    []api.User
	groups   []string
	rows     [8]row
	releases []api.Release
}

// fresh is what is to be told of a new host.
func fresh(n int) *model { return &model{version: 1, releases: make([]api.Release, n)} }

// clone is a model apart.
func (m *model) clone() *model {
	c := *m
	c.users, c.groups, c.releases = nil, slices.Clone(m.groups), slices.Clone(m.releases)
	for _, u := range m.users {
		c.users = append(c.users, user.Clone(u))
	}
	return &c
}

// dir is a model's directory, as bytes.
func (m *model) dir(t *testing.T) []byte {
	t.Helper()
	if m.version == 2 {
		d, e := newer.Of(m.users, m.groups)
		if e != api.OK {
			t.Fatalf("the model may not be: error %d", e)
		}
		return folio.Bytes(d)
	}
	d, e := elder.Of(m.users)
	if e != api.OK {
		t.Fatalf("the model may not be: error %d", e)
	}
	return shot.Bytes(d)
}

// table is a model's table.
func (m *model) table(t *testing.T) *table.Table {
	t.Helper()
	x := table.New()
	for client, r := range m.rows {
		if r.number > 0 && x.Put(uint8(client), r.number, r.reply) != api.OK {
			t.Fatalf("the model may not be: number %d", r.number)
		}
	}
	return x
}

// board is a model's board.
func (m *model) board(t *testing.T) *advert.Board {
	t.Helper()
	b := advert.New(len(m.releases))
	for node, r := range m.releases {
		if r > 0 && b.Note(uint8(node), r) != api.OK {
			t.Fatalf("the model may not be: release %d", r)
		}
	}
	return b
}

// host is one that Of makes of what a model has.
func (m *model) host(t *testing.T) *host.Host {
	t.Helper()
	h, e := host.Of(m.version, m.dir(t), m.table(t), m.board(t))
	if h == nil || e != api.OK {
		t.Fatalf("there is no host: error %d", e)
	}
	return h
}

// first is the first error of several.
func first(errs ...api.Errno) api.Errno {
	for _, e := range errs {
		if e != api.OK {
			return e
		}
	}
	return api.OK
}

// when is an error, when something is.
func when(is bool, e api.Errno) api.Errno {
	if is {
		return e
	}
	return api.OK
}

// at is where a user is; -1: nowhere.
func (m *model) at(n string) int {
	return slices.IndexFunc(m.users, func(u api.User) bool { return u.Name == n })
}

// who is whose an address is; -1: nobody's.
func (m *model) who(mail string) int {
	return slices.IndexFunc(m.users, func(u api.User) bool { return u.Mail == mail && mail != "" })
}

// sort makes the users rise again.
func (m *model) sort() {
	slices.SortFunc(m.users, func(a, b api.User) int { return strings.Compare(a.Name, b.Name) })
}

// isMail asks for an address or none, and folds it.
func isMail(s string) (string, api.Errno) {
	if s == "" {
		return "", api.OK
	}
	return name.Mail(s)
}

// named tells the names of all that are so.
func (m *model) named(is func(u api.User) bool) []string {
	var names []string
	for _, u := range m.users {
		if is(u) {
			names = append(names, u.Name)
		}
	}
	return names
}

// basic does what both schemas know.
func (m *model) basic(o op.Op) ([]string, api.Errno) {
	i := m.at(o.A)
	none := when(i < 0, api.ErrNone)
	switch o.Kind {
	case 0:
		e := first(name.Name(o.A), name.Hash(o.B), when(i >= 0, api.ErrSame), when(len(m.users) >= 12, api.ErrFull))
		if e == api.OK {
			m.users = append(m.users, api.User{Name: o.A, Hash: o.B})
			m.sort()
		}
		return nil, e
	case 1:
		e := first(name.Name(o.A), none)
		if e == api.OK {
			m.users = slices.Delete(m.users, i, i+1)
		}
		return nil, e
	case 2:
		e := first(name.Name(o.A), name.Hash(o.B), none)
		if e == api.OK && m.users[i].Disabled {
			e = api.ErrState
		}
		if e == api.OK {
			m.users[i].Hash = o.B
		}
		return nil, e
	case 3:
		if e := first(name.Name(o.A), none); e != api.OK {
			return nil, e
		}
		u := m.users[i]
		if m.version == 1 {
			return []string{u.Hash}, api.OK
		}
		return append([]string{u.Hash, u.Mail, map[bool]string{false: "0", true: "1"}[u.Disabled]}, u.Groups...), api.OK
	}
	if e := name.Prefix(o.A); e != api.OK {
		return nil, e
	}
	return m.named(func(u api.User) bool { return strings.HasPrefix(u.Name, o.A) }), api.OK
}

// ofUsers does what the second schema alone knows of users.
func (m *model) ofUsers(o op.Op) ([]string, api.Errno) {
	i := m.at(o.A)
	none := when(i < 0, api.ErrNone)
	switch o.Kind {
	case 5:
		mail, bad := isMail(o.B)
		j := m.who(mail)
		e := first(name.Name(o.A), bad, none, when(j >= 0 && j != i, api.ErrSame))
		if e == api.OK {
			m.users[i].Mail = mail
		}
		return nil, e
	case 6, 7:
		e := first(name.Name(o.A), none)
		if e == api.OK && m.users[i].Disabled == (o.Kind == 6) {
			e = api.ErrState
		}
		if e == api.OK {
			m.users[i].Disabled = o.Kind == 6
		}
		return nil, e
	case 8:
		e := first(name.Name(o.A), name.Name(o.B), none, when(m.at(o.B) >= 0, api.ErrSame))
		if e == api.OK {
			m.users[i].Name = o.B
			m.sort()
		}
		return nil, e
	}
	mail, e := name.Mail(o.A)
	if e = first(e, when(m.who(mail) < 0, api.ErrNone)); e != api.OK {
		return nil, e
	}
	return []string{m.users[m.who(mail)].Name}, api.OK
}

// ofGroups does what the second schema alone knows of groups.
func (m *model) ofGroups(o op.Op) ([]string, api.Errno) {
	there := slices.Contains(m.groups, o.A)
	none := when(!there, api.ErrNone)
	switch o.Kind {
	case 9:
		e := first(name.Name(o.A), when(there, api.ErrSame), when(len(m.groups) >= 6, api.ErrFull))
		if e == api.OK {
			m.groups = append(slices.Clone(m.groups), o.A)
			slices.Sort(m.groups)
		}
		return nil, e
	case 10:
		e := first(name.Name(o.A), none)
		if e == api.OK {
			m.groups = slices.DeleteFunc(slices.Clone(m.groups), func(g string) bool { return g == o.A })
			for i := range m.users {
				m.part(i, o.A)
			}
		}
		return nil, e
	case 11, 12:
		i := m.at(o.B)
		if e := first(name.Name(o.A), name.Name(o.B), when(i < 0, api.ErrNone), none); e != api.OK {
			return nil, e
		}
		is := slices.Contains(m.users[i].Groups, o.A)
		switch {
		case o.Kind == 11 && is:
			return nil, api.ErrSame
		case o.Kind == 12 && !is:
			return nil, api.ErrState
		case o.Kind == 12:
			m.part(i, o.A)
			return nil, api.OK
		}
		m.users[i].Groups = append(slices.Clone(m.users[i].Groups), o.A)
		slices.Sort(m.users[i].Groups)
		return nil, api.OK
	}
	if e := first(name.Name(o.A), none); e != api.OK {
		return nil, e
	}
	return m.named(func(u api.User) bool { return slices.Contains(u.Groups, o.A) }), api.OK
}

// part takes a user out of a group.
func (m *model) part(i int, group string) {
	m.users[i].Groups = slices.DeleteFunc(slices.Clone(m.users[i].Groups), func(g string) bool { return g == group })
}

// ready tells whether each node has said that it knows the second schema.
func (m *model) ready() bool {
	for _, r := range m.releases {
		if r != 2 && r != 3 {
			return false
		}
	}
	return true
}

// done does an operation that may be.
func (m *model) done(client uint8, o op.Op) ([]string, api.Errno) {
	switch {
	case o.Kind <= 4:
		return m.basic(o)
	case o.Kind == 15 && m.version == 2:
		return nil, api.ErrUpgraded
	case o.Kind == 15 && !m.ready():
		return nil, api.ErrNotReady
	case o.Kind == 15:
		m.version = 2
		return nil, api.OK
	case o.Kind == 16 && (client != 255 || int(o.Node) >= len(m.releases)):
		return nil, api.ErrArg
	case o.Kind == 16:
		m.releases[o.Node] = o.Release
		return nil, api.OK
	case m.version == 1:
		return nil, api.ErrVersion
	case o.Kind <= 8 || o.Kind == 13:
		return m.ofUsers(o)
	}
	return m.ofGroups(o)
}

// apply does as Apply.
func (m *model) apply(r host.Request) (op.Reply, bool) {
	bad := op.Check(r.Op)
	if r.Client == 255 {
		if r.Number != 0 || r.Op.Kind != 16 || bad != api.OK {
			return op.Reply{E: api.ErrArg}, false
		}
		_, e := m.done(255, r.Op)
		return op.Reply{E: e}, true
	}
	if r.Client > 7 || r.Number == 0 || r.Number > most {
		return op.Reply{E: api.ErrArg}, false
	}
	x := &m.rows[r.Client]
	if r.Number < x.number {
		return op.Reply{E: api.ErrState}, false
	}
	if r.Number == x.number {
		return x.reply, false
	}
	p := op.Reply{E: bad}
	if bad == api.OK {
		p.L, p.E = m.done(r.Client, r.Op)
	}
	*x = row{r.Number, p}
	return p, true
}

// isReply holds a reply against one that is to be told: all that it has.
func isReply(t *testing.T, what string, p, want op.Reply) {
	t.Helper()
	if p.E != want.E || !slices.Equal(p.L, want.L) {
		t.Fatalf("%s: error %d, %.80q; not %d, %.80q", what, p.E, p.L, want.E, want.L)
	}
}

// isTable asks a table for all that a model has.
func isTable(t *testing.T, what string, x *table.Table, m *model) {
	t.Helper()
	for client, r := range m.rows {
		if n := x.Last(uint8(client)); n != r.number {
			t.Fatalf("%s: client %d: number %d, not %d", what, client, n, r.number)
		}
		isReply(t, what, x.Reply(uint8(client)), r.reply)
	}
}

// isBoard asks a board for all that a model has.
func isBoard(t *testing.T, what string, b *advert.Board, m *model) {
	t.Helper()
	if b.Nodes() != len(m.releases) {
		t.Fatalf("%s: %d nodes, not %d", what, b.Nodes(), len(m.releases))
	}
	for node, r := range m.releases {
		if x := b.Of(uint8(node)); x != r {
			t.Fatalf("%s: node %d: release %d, not %d", what, node, x, r)
		}
	}
}

// isTold asks a host for all that a model has.
func isTold(t *testing.T, what string, h *host.Host, m *model) {
	t.Helper()
	if h == nil {
		t.Fatalf("%s: there is no host", what)
	}
	if v := h.Version(); v != m.version {
		t.Fatalf("%s: version %d, not %d", what, v, m.version)
	}
	if b, want := h.Dir(), m.dir(t); !bytes.Equal(b, want) {
		t.Fatalf("%s: the directory is %.200q, not %.200q", what, b, want)
	}
	isTable(t, what, h.Table(), m)
	isBoard(t, what, h.Board(), m)
}

// noted notes releases of all nodes, as System does.
func noted(t *testing.T, h *host.Host, releases ...api.Release) {
	t.Helper()
	for node, r := range releases {
		p, is := h.Apply(host.Request{Client: 255, Op: op.Op{Kind: 16, Node: uint8(node), Release: r}})
		if p.E != api.OK || len(p.L) > 0 || !is {
			t.Fatalf("node %d, release %d: error %d, %q, %t", node, r, p.E, p.L, is)
		}
	}
}

// people are so many users of the first schema.
func people(n int) []api.User {
	var l []api.User
	for i := range n {
		l = append(l, api.User{Name: "n" + string(rune('a'+i)), Hash: string("0123456789abcdef"[i])})
	}
	return l
}

// elders is a model of the first schema, with something of everything.
func elders() *model {
	m := fresh(3)
	m.users = []api.User{{Name: "ann", Hash: "1"}, {Name: "bob", Hash: "22"}, {Name: "bobby", Hash: "3"}}
	m.rows = [8]row{0: {7, op.Reply{L: []string{"22"}}}, 2: {1, op.Reply{E: api.ErrNone}}, 5: {9, op.Reply{}}, 7: {most, op.Reply{L: []string{"ann", "bob"}}}}
	m.releases = []api.Release{1, 0, 3}
	return m
}

// newers is a model of the second schema, with something of everything.
func newers() *model {
	m := elders()
	m.version = 2
	m.users[0].Mail, m.users[0].Groups = "a@b.c", []string{"dev", "ops"}
	m.users[1].Disabled, m.users[1].Groups = true, []string{"dev"}
	m.users[2].Mail = "bobby@x.org"
	m.groups = []string{"dev", "nobody", "ops"}
	m.releases = []api.Release{2, 3, 3, 2, 3}
	return m
}
