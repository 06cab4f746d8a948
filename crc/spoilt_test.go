package crc_test

import (
	"bytes"
	"testing"

	"interrex/api"
	"interrex/crc"
)

// turned is bytes with a pattern's bits turned over, from that bit on, each
// byte's lowest bit first.
func turned(b []byte, from int, pattern uint32) []byte {
	c := bytes.Clone(b)
	for i := range 32 {
		if pattern>>i&1 == 1 {
			c[(from+i)/8] ^= 1 << ((from + i) % 8)
		}
	}
	return c
}

// told tells whether bytes so spoilt are opened with ErrSum and nothing else.
func told(t *testing.T, x *crc.Table, sealed []byte, from int, pattern uint32) {
	t.Helper()
	if o, e := x.Open(turned(sealed, from, pattern)); e != api.ErrSum || len(o) != 0 {
		t.Fatalf("%d bytes, bits %032b from %d: %v, %d", len(sealed), pattern, from, o, e)
	}
}

func TestP2_3AllShortPatterns(t *testing.T) {
	x := crc.New()
	var d dice
	for _, n := range []int{0, 1, 3, 9} {
		sealed := x.Seal(d.bytes(n))
		for from := range len(sealed) * 8 {
			width := min(10, len(sealed)*8-from)
			for pattern := uint32(1); pattern < 1<<width; pattern += 2 {
				told(t, x, sealed, from, pattern)
			}
		}
	}
}

// Both ends of the pattern are turned over, and between them what the dice say.
func TestP2_3PatternsOfEachWidth(t *testing.T) {
	x := crc.New()
	var d dice
	for _, n := range []int{0, 1, 2, 4, 7, 60} {
		sealed := x.Seal(d.bytes(n))
		for width := 1; width <= 32; width++ {
			for from := range len(sealed)*8 - width + 1 {
				all := uint32(1<<width - 1)
				ends := uint32(1<<(width-1) | 1)
				told(t, x, sealed, from, ends)
				told(t, x, sealed, from, all)
				for range 8 {
					inner := uint32(d.next(1<<31))<<1 ^ uint32(d.next(1<<31))
					told(t, x, sealed, from, inner&all|ends)
				}
			}
		}
	}
}

// The pattern of 33 bits that changes no sum shows that the bound is the
// polynomial's: with its last bit left out it is told.
func TestP2_3TheBound(t *testing.T) {
	x := crc.New()
	const first, rest = 1, uint32(0xedb88320)
	for _, n := range []int{1, 5, 40} {
		sealed := x.Seal(make([]byte, n))
		for from := range len(sealed)*8 - 32 {
			told(t, x, sealed, from, first)
			told(t, x, sealed, from+1, rest)
			spoilt := turned(turned(sealed, from, first), from+1, rest)
			if _, e := x.Open(spoilt); e != api.OK {
				t.Fatalf("%d bytes, from %d: %d", n, from, e)
			}
		}
	}
}

// A table tells the same, whatever it was asked before.
func TestP2_3HangsOnTheBytesAlone(t *testing.T) {
	var d dice
	old := crc.New()
	for range 500 {
		b := d.bytes(d.next(40))
		sum := uint32(d.next(1 << 31))
		if crc.New().Sum(b) != old.Sum(b) || crc.New().More(sum, b) != old.More(sum, b) {
			t.Fatalf("%v: another sum", b)
		}
		if !bytes.Equal(crc.New().Seal(b), old.Seal(b)) {
			t.Fatalf("%v: sealed otherwise", b)
		}
		for _, c := range [][]byte{b, old.Seal(b)} {
			p, e := crc.New().Open(c)
			q, f := old.Open(c)
			if !bytes.Equal(p, q) || e != f {
				t.Fatalf("%v: opened otherwise", c)
			}
		}
	}
}

func TestP2_3WhatIsHandedInIsNotChanged(t *testing.T) {
	x := crc.New()
	room := []byte("123456789abcdefgh")
	x.Sum(room[:9])
	x.More(1, room[:9])
	s := x.Seal(room[:9])
	if string(room) != "123456789abcdefgh" {
		t.Errorf("%q", room)
	}
	longer := append(bytes.Clone(s), "abcd"...)
	want := bytes.Clone(longer)
	o, e := x.Open(longer[:len(s)])
	if e != api.OK || !bytes.Equal(longer, want) {
		t.Errorf("%d, %q", e, longer)
	}
	o[0] = 'z'
	_ = append(o, "zzzz"...)
	if !bytes.Equal(longer, want) {
		t.Errorf("what was opened shares memory with what was handed in: %q", longer)
	}
}

func TestP2_3AnswersAreNewMemory(t *testing.T) {
	x := crc.New()
	b := make([]byte, 9, 40) // room for a sum
	copy(b, "123456789")
	s, r := x.Seal(b), x.Seal(b)
	b[0] = 'z'
	s[1] = 'y'
	if string(r) != "123456789\x26\x39\xf4\xcb" || string(b) != "z23456789" || string(s[:2]) != "1y" {
		t.Errorf("%q, %q, %q", r, b, s)
	}
	o, e := x.Open(r)
	p, f := x.Open(r)
	o[0] = 'z'
	r[1] = 'y'
	if string(p) != "123456789" || string(o) != "z23456789" || e != api.OK || f != api.OK {
		t.Errorf("%q, %q, %d, %d", p, o, e, f)
	}
}
