package image_test

import (
	"bytes"
	"fmt"
	"math"
	"slices"
	"strings"
	"testing"

	"interrex/api"
	"interrex/host"
	"interrex/image"
	"interrex/op"
)

func TestP18_1BytesByHand(t *testing.T) {
	for n, board := range map[int]string{3: "\x03\x00\x00\x00", 5: "\x05\x00\x00\x00\x00\x00", 7: "\x07\x00\x00\x00\x00\x00\x00\x00"} {
		want := "\x01" + "\x03\x00\x01\x00\x00" + zeros(64) + board
		if b := image.Bytes(host.New(n)); string(b) != want {
			t.Errorf("a new host of %d: %q, not %q", n, b, want)
		}
	}
}

// The same, with something of everything, in both versions.
func TestP18_1BytesOfRequestsByHand(t *testing.T) {
	h := host.New(3)
	do := func(client uint8, n uint64, o op.Op, want api.Errno) {
		t.Helper()
		if p, is := h.Apply(host.Request{Client: client, Number: n, Op: o}); p.E != want || !is {
			t.Fatal(o, p, is)
		}
	}
	do(255, 0, op.Op{Kind: op.Advertise, Node: 1, Release: 2}, api.OK)
	do(1, 4, op.Op{Kind: op.Create, A: "ann", B: "1"}, api.OK)
	do(2, 258, op.Op{Kind: op.Lookup, A: "ann"}, api.OK)
	do(0, 1, op.Op{Kind: op.Find, A: "a@b.c"}, api.ErrVersion)
	want := "\x01" + "\x0b\x00" + "\x01\x01\x00\x03\x00ann\x01\x001" +
		"\x01" + zeros(7) + "\x03\x00\x06\x00\x00" +
		"\x04" + zeros(7) + "\x03\x00\x00\x00\x00" +
		"\x02\x01" + zeros(6) + "\x06\x00\x00\x01\x00\x01\x001" +
		zeros(40) + "\x03\x00\x02\x00"
	if b := image.Bytes(h); string(b) != want {
		t.Errorf("%q, not %q", b, want)
	}
	do(255, 0, op.Op{Kind: op.Advertise, Node: 0, Release: 3}, api.OK)
	do(255, 0, op.Op{Kind: op.Advertise, Node: 2, Release: 3}, api.OK)
	do(7, most, op.Op{Kind: op.Upgrade}, api.OK)
	want = "\x02" + "\x12\x00" + "\x02\x00\x00\x01\x00\x03\x00ann\x01\x001\x00\x00\x00\x00\x00" +
		"\x01" + zeros(7) + "\x03\x00\x06\x00\x00" +
		"\x04" + zeros(7) + "\x03\x00\x00\x00\x00" +
		"\x02\x01" + zeros(6) + "\x06\x00\x00\x01\x00\x01\x001" +
		zeros(32) + "\x00\x00\x00\x00\x00\x01\x00\x00" + "\x03\x00\x00\x00\x00" + "\x03\x03\x02\x03"
	if b := image.Bytes(h); string(b) != want {
		t.Errorf("%q, not %q", b, want)
	}
}

func TestP18_1Bytes(t *testing.T) {
	for i, m := range hosts() {
		if b := image.Bytes(m.host(t)); string(b) != m.spelt() {
			t.Errorf("host %d: %.200q, not %.200q", i, b, m.spelt())
		}
	}
}

// Hosts that came by requests alone are written part by part, too.
func TestP18_1BytesOfRequests(t *testing.T) {
	d := dice(180)
	versions := map[int]int{}
	for i := range 30 {
		h := host.New(sizes[i%3])
		for range 200 {
			h.Apply(d.request(h))
			if b, want := image.Bytes(h), split(h); !bytes.Equal(b, want) {
				t.Fatalf("%.200q, not %.200q", b, want)
			}
			versions[h.Version()]++
		}
	}
	if versions[1] < 500 || versions[2] < 500 {
		t.Error(versions)
	}
}

func TestP18_1BytesOfNil(t *testing.T) {
	if b := image.Bytes(nil); len(b) != 0 {
		t.Errorf("of nil there are bytes: %d", b)
	}
}

func TestP18_1Version(t *testing.T) {
	for first := range 256 {
		want := 0
		if first == 1 || first == 2 {
			want = first
		}
		for _, behind := range []string{"", "\x00", "\x01", "\x02\x02", zeros(70), "\x03\x00\x01\x00\x00"} {
			if v := image.Version([]byte(string([]byte{byte(first)}) + behind)); v != want {
				t.Errorf("%d, %q: version %d", first, behind, v)
			}
		}
	}
	for _, b := range [][]byte{nil, {}, []byte("\x01")[:0], []byte("\x02")[:0]} {
		if v := image.Version(b); v != 0 {
			t.Error("of no bytes: version", v)
		}
	}
}

// Of a host's bytes Version is the host's.
func TestP18_1VersionOfHosts(t *testing.T) {
	for _, m := range hosts() {
		if v := image.Version(image.Bytes(m.host(t))); v != m.version {
			t.Errorf("version %d, not %d", v, m.version)
		}
	}
	if v := image.Version(image.Bytes(nil)); v != 0 {
		t.Error("of nil: version", v)
	}
}

// checked is the sum of bytes, told bit by bit.
func checked(b string) uint32 {
	register := ^uint32(0)
	for i := range len(b) {
		register ^= uint32(b[i])
		for range 8 {
			out := register & 1
			register >>= 1
			register ^= out * 0xedb88320
		}
	}
	return ^register
}

func TestP18_1Sum(t *testing.T) {
	if checked("123456789") != 0xcbf43926 {
		t.Fatal("the test's own sum is wrong")
	}
	if s := image.Sum(nil); s != 0 {
		t.Errorf("of nil: %x", s)
	}
	for i, m := range hosts() {
		h := m.host(t)
		if s, want := image.Sum(h), checked(m.spelt()); s != want || image.Sum(h) != want {
			t.Errorf("host %d: %x, not %x", i, s, want)
		}
	}
}

// Whatever is changed, a host has another sum; of the same bytes it is the same.
func TestP18_1SumTellsHostsApart(t *testing.T) {
	l := []model{elders(), elders(), elders(), elders(), elders(), elders(), newers(), newers(), newers(), newers()}
	l[1].users[2].Hash = "4"
	l[2].users = l[2].users[:2]
	l[3].rows[2].e = api.ErrSame
	l[4].rows[7].number--
	l[5].releases[0] = 2
	l[7].groups = append(l[7].groups, "zoo")
	l[8].users[0].Disabled = true
	l[9].releases = l[9].releases[:3]
	l = append(l, hosts()...)
	by := map[uint32]string{}
	for _, m := range l {
		s := image.Sum(m.host(t))
		if had, is := by[s]; is && had != m.spelt() {
			t.Errorf("%x: %.90q, and %.90q", s, had, m.spelt())
		}
		by[s] = m.spelt()
	}
	if len(by) != 8+len(hosts()) {
		t.Error(len(by), "sums")
	}
}

func TestP18_2Most(t *testing.T) {
	for n := -600; n <= 600; n++ {
		want := 0
		if slices.Contains(sizes, n) {
			want = 1 + 2 + 1733 + 8*(8+2+1+2+400) + 1 + n
		}
		if got := image.Most(n); got != want {
			t.Errorf("of %d nodes: %d, not %d", n, got, want)
		}
	}
	for n, want := range map[int]int{3: 5044, 5: 5046, 7: 5048} {
		if got := image.Most(n); got != want {
			t.Errorf("of %d nodes: %d, not %d", n, got, want)
		}
	}
	for _, n := range []int{math.MinInt, math.MaxInt, 1<<32 + 3, 1<<16 + 5, 1<<8 + 7, -3, -5, -7} {
		if got := image.Most(n); got != 0 {
			t.Errorf("of %d nodes: %d", n, got)
		}
	}
}

// A host that has all that it may have, and replies of just so many bytes, has
// just so many bytes.
func TestP18_2MostIsReached(t *testing.T) {
	for _, n := range sizes {
		if b := image.Bytes(full(2, n).host(t)); len(b) != image.Most(n) {
			t.Errorf("of %d nodes: %d, not %d", n, len(b), image.Most(n))
		}
	}
}

// lay leads a host by requests to the most that it can have, and asks it
// everything: once all is there, each client has the longest reply in turn.
func lay(t *testing.T, n int) []*host.Host {
	t.Helper()
	h := host.New(n)
	m := full(2, n)
	var l []host.Request
	for node := range m.releases {
		l = append(l, host.Request{Client: 255, Op: op.Op{Kind: op.Advertise, Node: uint8(node), Release: 3}})
	}
	ask := func(o op.Op) { l = append(l, host.Request{Client: 3, Number: uint64(len(l)), Op: o}) }
	for _, u := range m.users {
		ask(op.Op{Kind: op.Create, A: u.Name, B: u.Hash})
	}
	ask(op.Op{Kind: op.Upgrade})
	for _, g := range m.groups {
		ask(op.Op{Kind: op.Make, A: g})
	}
	for _, u := range m.users {
		ask(op.Op{Kind: op.SetMail, A: u.Name, B: u.Mail})
		for _, g := range m.groups {
			ask(op.Op{Kind: op.Join, A: g, B: u.Name})
		}
		ask(op.Op{Kind: op.Disable, A: u.Name})
	}
	for _, r := range l {
		if p, is := h.Apply(r); p.E != api.OK || !is {
			t.Fatal(r, p, is)
		}
	}
	if string(h.Dir()) != m.dir() {
		t.Fatalf("the directory isn't full: %.200q", h.Dir())
	}
	var all []*host.Host
	for _, o := range []op.Op{
		{Kind: op.List}, {Kind: op.Members, A: m.groups[0]}, {Kind: op.Lookup, A: m.users[0].Name}, {Kind: op.Find, A: m.users[0].Mail},
		{Kind: op.Create, A: "x", B: "1"}, {Kind: op.List, A: strings.Repeat("a", 11)},
	} {
		c := h.Copy()
		for client := range uint8(8) {
			c.Apply(host.Request{Client: client, Number: most, Op: o})
		}
		all = append(all, c)
	}
	return all
}

func TestP18_2MostHolds(t *testing.T) {
	for _, n := range sizes {
		longest := 0
		for _, h := range lay(t, n) {
			longest = max(longest, len(image.Bytes(h)))
			for client := range uint8(8) {
				p := h.Table().Reply(client)
				size := 0
				for _, s := range p.L {
					size += 2 + len(s)
				}
				if size > 400 {
					t.Errorf("a reply of %d bytes: %.90q", size, p.L)
				}
			}
		}
		if longest > image.Most(n) || longest < 1733 {
			t.Errorf("of %d nodes: %d, above %d", n, longest, image.Most(n))
		}
	}
	d := dice(182)
	for i := range 60 {
		n := sizes[i%3]
		h := host.New(n)
		for range 100 {
			h.Apply(d.request(h))
			if b := image.Bytes(h); len(b) > image.Most(n) {
				t.Fatal(fmt.Sprint(n, " nodes: ", len(b), " bytes"))
			}
		}
	}
}
