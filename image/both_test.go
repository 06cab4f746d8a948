package image_test

import (
	"bytes"
	"fmt"
	"runtime"
	"testing"

	"interrex/api"
	"interrex/host"
	"interrex/image"
	"interrex/op"
)

// A host is read from its bytes, wherever it came to, and goes on as the one
// that was written.
func TestP18_3ReadFromItsBytes(t *testing.T) {
	d := dice(183)
	versions := map[int]int{}
	for i := range 30 {
		h := host.New(sizes[i%3])
		for range 200 {
			b := image.Bytes(h)
			g := read(t, "a host's", b)
			if !same(g, h) || !bytes.Equal(image.Bytes(g), b) || image.Sum(g) != image.Sum(h) {
				t.Fatalf("%.200q isn't told again: %.200q", b, image.Bytes(g))
			}
			r := d.request(h)
			p, is := h.Apply(r)
			q, again := g.Apply(r)
			if !op.Same(p, q) || is != again || !same(g, h) {
				t.Fatal(r, p, is, "; of the one that was read:", q, again)
			}
			versions[h.Version()]++
		}
	}
	if versions[1] < 500 || versions[2] < 500 {
		t.Error(versions)
	}
}

// A host that was read from bytes again and again, between requests, is the
// same as one that never was.
func TestP18_3ReadAgainAndAgain(t *testing.T) {
	d := dice(184)
	for i := range 10 {
		h := host.New(sizes[i%3])
		g := h.Copy()
		for range 300 {
			r := d.request(h)
			h.Apply(r)
			g = read(t, "again", image.Bytes(g))
			g.Apply(r)
		}
		if !same(g, h) || image.Sum(g) != image.Sum(h) {
			t.Fatalf("%.200q, not %.200q", image.Bytes(g), image.Bytes(h))
		}
	}
}

// Hosts have the same bytes just if they have the same.
func TestP18_3OneHostOfBytes(t *testing.T) {
	all := hosts()
	for i, x := range all {
		for j, y := range all {
			if a, b := image.Bytes(x.host(t)), image.Bytes(y.host(t)); bytes.Equal(a, b) != (i == j) {
				t.Errorf("hosts %d and %d: the same bytes: %t", i, j, i != j)
			}
		}
	}
}

// The order in which users, groups and replies came isn't told.
func TestP18_3WhateverTheOrder(t *testing.T) {
	names := []string{"bob", "ann", "cid"}
	var first []byte
	for _, order := range [][]int{{0, 1, 2}, {0, 2, 1}, {1, 0, 2}, {1, 2, 0}, {2, 0, 1}, {2, 1, 0}} {
		h := host.New(5)
		for _, i := range order {
			h.Apply(host.Request{Client: uint8(i), Number: 4, Op: op.Op{Kind: op.Create, A: names[i], B: fmt.Sprint(i)}})
		}
		b := image.Bytes(h)
		if first == nil {
			first = b
		}
		if !bytes.Equal(b, first) {
			t.Errorf("%v: %.200q, not %.200q", order, b, first)
		}
	}
}

// Writing changes nothing of a host, and tells the same once more.
func TestP18_3WritingChangesNothing(t *testing.T) {
	for i, m := range hosts() {
		h := m.host(t)
		for range 3 {
			b := image.Bytes(h)
			image.Sum(h)
			isTold(t, fmt.Sprint("host ", i), h, m)
			clear(b[:cap(b)])
		}
		if b := image.Bytes(h); string(b) != m.spelt() {
			t.Errorf("host %d: %.200q, not %.200q", i, b, m.spelt())
		}
	}
}

// What a host is told later doesn't change bytes that it had told.
func TestP18_3BytesAreApart(t *testing.T) {
	d := dice(185)
	h := host.New(3)
	var told [][]byte
	var were []string
	for range 300 {
		h.Apply(d.request(h))
		b := image.Bytes(h)
		told, were = append(told, b), append(were, string(b))
		clear(b[len(b):cap(b)])
	}
	for i, b := range told {
		if string(b) != were[i] {
			t.Fatalf("bytes %d became %.200q", i, b)
		}
	}
}

// Reading changes neither the bytes nor the room behind them, and keeps none
// of them; two hosts of the same bytes are apart.
func TestP18_3ReadIsApart(t *testing.T) {
	for i, m := range hosts() {
		what := fmt.Sprint("host ", i)
		room := append([]byte(m.spelt()), 9, 9, 9, 9)
		was := bytes.Clone(room)
		b := room[:len(room)-4]
		x, y := read(t, what, b), read(t, what, b)
		image.Version(b)
		if !bytes.Equal(room, was) {
			t.Fatalf("%s: the bytes became %.200q", what, room)
		}
		clear(room)
		isTold(t, what, x, m)
		for client := range uint8(8) {
			for n, o := range []op.Op{{Kind: op.Create, A: "zoe", B: "9"}, {Kind: op.Delete, A: "ann"}, {Kind: op.Upgrade}, {Kind: op.Make, A: "zoo"}, {Kind: op.List}} {
				x.Apply(host.Request{Client: client, Number: x.Table().Last(client) + uint64(n+1), Op: o})
			}
		}
		for node := range uint8(7) {
			x.Apply(host.Request{Client: 255, Op: op.Op{Kind: op.Advertise, Node: node, Release: 2}})
		}
		isTold(t, what+", the other one", y, m)
	}
}

// What is refused isn't changed, either.
func TestP18_3RefusedIsNotChanged(t *testing.T) {
	for _, s := range []string{"", "\x07", fresh(3).spelt()[:40], newers().spelt() + "a", with(1, empties[2], zeros(64), noted), with(2, empties[2], zeros(64), "\x04")} {
		room := append([]byte(s), 9, 9, 9)
		was := bytes.Clone(room)
		if h, e := image.Read(room[:len(s)]); h != nil || e == api.OK {
			t.Errorf("%.90q: a host: %t, error %d", s, h != nil, e)
		}
		if !bytes.Equal(room, was) {
			t.Errorf("%.90q became %.90q", was, room)
		}
	}
}

// room is how much memory is in use.
func room() uint64 {
	var m runtime.MemStats
	runtime.GC()
	runtime.ReadMemStats(&m)
	return m.HeapAlloc
}

// Of long bytes that a host's are a piece of nothing stays.
func TestP18_3HandedInIsNotKept(t *testing.T) {
	for _, m := range []model{elders(), newers()} {
		was := room()
		var l []*host.Host
		for range 4 {
			long := append([]byte(m.spelt()), make([]byte, 1<<24)...)
			l = append(l, read(t, "a piece", long[:len(long)-1<<24]))
		}
		if now := room(); now > was+1<<23 {
			t.Errorf("so much more is in use: %d", now-was)
		}
		for _, h := range l {
			isTold(t, "a piece", h, m)
		}
	}
}
