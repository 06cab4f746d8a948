package frame_test

import (
	"bytes"
	"testing"

	"interrex/api"
	"interrex/frame"
)

func TestP3_3WhatIsPutIsGot(t *testing.T) {
	var d dice
	f := frame.New()
	sizes := []int{0, 1, 2, 65525, longestBody}
	for range 300 {
		sizes = append(sizes, d.next(2000))
	}
	for _, n := range sizes {
		kind, body := uint8(d.next(256)), d.bytes(n)
		b, e := f.Put(kind, body)
		if e != api.OK {
			t.Fatalf("%d bytes: %d", n, e)
		}
		if k, x, e := f.Get(b); e != api.OK || k != kind || !bytes.Equal(x, body) {
			t.Fatalf("%d bytes: %d, not %d; %d bytes, %d", n, k, kind, len(x), e)
		}
		if first, rest, e := f.Split(b); e != api.OK || !bytes.Equal(first, b) || len(rest) != 0 {
			t.Fatalf("%d bytes: %d and %d, %d", n, len(first), len(rest), e)
		}
	}
}

func TestP3_3FrameInAFrame(t *testing.T) {
	f := frame.New()
	inner, _ := f.Put(4, []byte("abc"))
	outer, _ := f.Put(5, inner)
	k, x, e := f.Get(outer)
	if k != 5 || !bytes.Equal(x, inner) || e != api.OK {
		t.Error(k, x, e)
	}
	if k, x, e = f.Get(x); k != 4 || string(x) != "abc" || e != api.OK {
		t.Error(k, x, e)
	}
}

// turned is bytes with a pattern's bits turned over, from that bit on, each
// byte's lowest bit first.
func turned(b []byte, from int, pattern uint32) []byte {
	c := bytes.Clone(b)
	for i := range 32 {
		if pattern>>i&1 == 1 {
			c[(from+i)/8] ^= 1 << ((from + i) % 8)
		}
	}
	return c
}

// told tells whether a frame so spoilt is got with an error and nothing else.
func told(t *testing.T, f *frame.Framer, whole []byte, from int, pattern uint32) {
	t.Helper()
	k, x, e := f.Get(turned(whole, from, pattern))
	if e == api.OK || k != 0 || len(x) != 0 {
		t.Fatalf("%d bytes, bits %032b from %d: %d, %v, %d", len(whole), pattern, from, k, x, e)
	}
}

func TestP3_3AllShortPatterns(t *testing.T) {
	var d dice
	f := frame.New()
	for _, n := range []int{0, 1, 5} {
		whole := plain(uint8(d.next(256)), d.bytes(n))
		for from := range len(whole) * 8 {
			width := min(10, len(whole)*8-from)
			for pattern := uint32(1); pattern < 1<<width; pattern += 2 {
				told(t, f, whole, from, pattern)
			}
		}
	}
}

// Both ends of the pattern are turned over, and between them what the dice say.
func TestP3_3PatternsOfEachWidth(t *testing.T) {
	var d dice
	f := frame.New()
	for _, n := range []int{0, 1, 2, 7, 60} {
		whole := plain(uint8(d.next(256)), d.bytes(n))
		for width := 1; width <= 32; width++ {
			for from := range len(whole)*8 - width + 1 {
				all := uint32(1<<width - 1)
				ends := uint32(1<<(width-1) | 1)
				told(t, f, whole, from, ends)
				told(t, f, whole, from, all)
				for range 4 {
					inner := uint32(d.next(1<<31))<<1 ^ uint32(d.next(1<<31))
					told(t, f, whole, from, inner&all|ends)
				}
			}
		}
	}
}

func TestP3_3LongestFrameSpoilt(t *testing.T) {
	var d dice
	f := frame.New()
	whole := plain(9, d.bytes(longestBody))
	for range 200 {
		told(t, f, whole, d.next(len(whole)*8-31), uint32(d.next(1<<31))<<1|1)
	}
	for from := range 17 { // the head
		told(t, f, whole, from, uint32(d.next(1<<31))<<1|1)
	}
}

func TestP3_3WhatIsHandedInIsNotChanged(t *testing.T) {
	f := frame.New()
	room := []byte("abcdefghijklmnopqrstuvwxyz")
	f.Put(3, room[:3])
	if string(room) != "abcdefghijklmnopqrstuvwxyz" {
		t.Errorf("%q", room)
	}
	longer := append(plain(3, []byte("abc")), "spare room"...)
	want := bytes.Clone(longer)
	_, x, e := f.Get(longer[:13])
	first, rest, g := f.Split(longer[:15])
	if e != api.OK || g != api.OK || !bytes.Equal(longer, want) {
		t.Errorf("%d, %d, %q", e, g, longer)
	}
	for _, answer := range [][]byte{x, first, rest} {
		answer[0] = 'z'
		_ = append(answer, "zzzzzzzz"...)
	}
	if !bytes.Equal(longer, want) {
		t.Errorf("an answer shares memory with what was handed in: %q", longer)
	}
}

func TestP3_3NothingIsKept(t *testing.T) {
	f := frame.New()
	body := make([]byte, 3, 40)
	copy(body, "abc")
	b, _ := f.Put(3, body)
	c, _ := f.Put(3, body)
	body[0] = 'z'
	b[7] = 'y'
	if !bytes.Equal(c, plain(3, []byte("abc"))) || string(body) != "zbc" {
		t.Errorf("%q, %q", c, body)
	}
	_, x, _ := f.Get(c)
	_, y, _ := f.Get(c)
	c[6], x[1] = 'v', 'w'
	if string(y) != "abc" || string(x) != "awc" {
		t.Errorf("%q, %q", x, y)
	}
}

// The two parts of an answer are apart, spare room too.
func TestP3_3PartsAreApart(t *testing.T) {
	f := frame.New()
	whole := plain(3, []byte("abc"))
	b := append(bytes.Clone(whole), "rest"...)
	first, rest, _ := f.Split(b)
	again, behind, _ := f.Split(b)
	_ = append(first, "zzzzzzzz"...)
	first[6], rest[1], b[0], b[13] = 'y', 'y', 9, 9
	if string(rest) != "ryst" || !bytes.Equal(again, whole) || string(behind) != "rest" {
		t.Errorf("%q, %q, %q", rest, again, behind)
	}
	if !bytes.Equal(first[:6], whole[:6]) || first[6] != 'y' {
		t.Errorf("%q", first)
	}
}

// Whatever the bytes, one that is got is the very frame of what is told.
func TestP3_3AnyBytes(t *testing.T) {
	var d dice
	f := frame.New()
	for range 20000 {
		b := d.bytes(d.next(16))
		switch d.next(3) {
		case 0:
			b = claimed(uint8(d.next(3)), uint8(d.next(256)), uint32(d.next(8)), b[:len(b)/2])
		case 1:
			b = append(plain(uint8(d.next(256)), b), d.bytes(d.next(3))...)
		}
		k, x, e := f.Get(b)
		if (e == api.OK) != bytes.Equal(b, plain(k, x)) {
			t.Fatalf("%v: %d, %v, %d", b, k, x, e)
		}
		first, rest, g := f.Split(b)
		if g == api.OK && !bytes.Equal(append(first, rest...), b) || g != api.OK && len(first)+len(rest) > 0 {
			t.Fatalf("%v: %v, %v, %d", b, first, rest, g)
		}
		if e == api.OK && (g != api.OK || len(rest) > 0) {
			t.Fatalf("%v: got, but split into %v and %v, %d", b, first, rest, g)
		}
	}
}
