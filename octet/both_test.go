package octet_test

import (
	"bytes"
	"math"
	"slices"
	"strings"
	"testing"

	"interrex/api"
	"interrex/octet"
)

// dice is a row of numbers that look thrown, the same each time.
type dice uint64

func (d *dice) next(n int) int {
	*d = *d*6364136223846793005 + 1442695040888963407
	return int(uint64(*d) >> 33 % uint64(n))
}

func (d *dice) bytes(n int) []byte {
	b := make([]byte, n)
	for i := range b {
		b[i] = byte(d.next(256))
	}
	return b
}

func (d *dice) texts() []string {
	l := make([]string, d.next(5))
	for i := range l {
		l[i] = string(d.bytes(d.next(5)))
	}
	return l
}

// oneThing writes something, and tells how to read it and to look whether it is that.
func oneThing(d *dice, w *octet.Writer) func(r *octet.Reader) bool {
	x := uint64(d.next(1<<31))<<33 ^ uint64(d.next(1<<31))
	b := d.bytes(d.next(6))
	l := d.texts()
	switch d.next(8) {
	case 0:
		w.Byte(uint8(x))
		return func(r *octet.Reader) bool { return r.Byte() == uint8(x) }
	case 1:
		w.Two(uint16(x))
		return func(r *octet.Reader) bool { return r.Two() == uint16(x) }
	case 2:
		w.Four(uint32(x))
		return func(r *octet.Reader) bool { return r.Four() == uint32(x) }
	case 3:
		w.Eight(x)
		return func(r *octet.Reader) bool { return r.Eight() == x }
	case 4:
		w.Truth(x%2 == 1)
		return func(r *octet.Reader) bool { return r.Truth() == (x%2 == 1) }
	case 5:
		w.Text(string(b))
		return func(r *octet.Reader) bool { return r.Text(len(b)) == string(b) }
	case 6:
		w.Row(l)
		return func(r *octet.Reader) bool { return slices.Equal(r.Row(len(l), 4), l) }
	default:
		w.Raw(b)
		return func(r *octet.Reader) bool { return bytes.Equal(r.Raw(len(b)), b) }
	}
}

func TestP1_4WhatIsWrittenIsRead(t *testing.T) {
	var d dice
	for round := range 500 {
		var w octet.Writer
		var looks []func(r *octet.Reader) bool
		for range 1 + d.next(12) {
			looks = append(looks, oneThing(&d, &w))
		}
		r := octet.Of(w.Bytes())
		for i, look := range looks {
			if !look(r) {
				t.Fatalf("round %d: thing %d is read as another one", round, i)
			}
		}
		if r.End() != api.OK {
			t.Fatalf("round %d: end %d", round, r.End())
		}
	}
}

func TestP1_4LongestIsRead(t *testing.T) {
	s := strings.Repeat("x", 65536)
	l := make([]string, 65537)
	l[65534], l[65535] = "last", "beyond"
	var w octet.Writer
	r := octet.Of(w.Text(s).Row(l).Bytes())
	if x := r.Text(65535); x != s[:65535] {
		t.Error(len(x))
	}
	if x := r.Row(65535, 4); !slices.Equal(x, l[:65535]) {
		t.Error(len(x))
	}
	if r.End() != api.OK {
		t.Error(r.End())
	}
}

// Whatever is read of whatever bytes: a first error stays, and nothing is left with it.
func TestP1_4AnyBytes(t *testing.T) {
	var d dice
	ends := []int{math.MinInt, -1, 0, 1, 2, 3, 300, math.MaxInt}
	for range 3000 {
		b := d.bytes(d.next(12))
		for i := range b {
			b[i] %= byte(1 + d.next(4)) // small ones, so that texts are read
		}
		r := octet.Of(b)
		for range 8 {
			e, left := r.Err(), r.Left()
			m, n := ends[d.next(len(ends))], ends[d.next(len(ends))]
			deeds := []func(){
				func() { r.Byte() }, func() { r.Two() }, func() { r.Four() }, func() { r.Eight() }, func() { r.Truth() },
				func() { r.Text(m) }, func() { r.Row(m, n) }, func() { r.Raw(m) },
			}
			deeds[d.next(len(deeds))]()
			if r.Left() > left || e != api.OK && r.Err() != e || r.Err() != api.OK && r.Left() != 0 {
				t.Fatalf("%v: error %d, then %d, left %d, then %d", b, e, r.Err(), left, r.Left())
			}
		}
	}
}

func TestP1_4WriterKeepsNothing(t *testing.T) {
	var w octet.Writer
	room := []byte{1, 2, 3, 4}
	l := []string{"a", "b", "c"}
	w.Raw(room[:2]).Row(l[:2]).Byte(9)
	if !bytes.Equal(room, []byte{1, 2, 3, 4}) || !slices.Equal(l, []string{"a", "b", "c"}) {
		t.Error("what was handed in is changed", room, l)
	}
	room[0], l[0] = 100, "z"
	want := []byte{1, 2, 2, 0, 1, 0, 'a', 1, 0, 'b', 9}
	if b := w.Bytes(); !bytes.Equal(b, want) {
		t.Error("what was handed in is kept", b)
	}
}

func TestP1_4BytesAreNewMemory(t *testing.T) {
	var w octet.Writer
	w.Raw([]byte{1, 2, 3})
	a := w.Bytes()
	b := w.Bytes()
	a[0] = 100
	_ = append(a, 101)
	w.Byte(4)
	if !bytes.Equal(b, []byte{1, 2, 3}) || !bytes.Equal(w.Bytes(), []byte{1, 2, 3, 4}) {
		t.Error(b, w.Bytes())
	}
	_ = append(b, 102) // a Writer's spare room is its own
	w.Raw(nil)
	if c := w.Bytes(); !bytes.Equal(c, []byte{1, 2, 3, 4}) {
		t.Error(c)
	}
}

func TestP1_4RawOfItsOwnBytes(t *testing.T) {
	var w octet.Writer
	w.Byte(1).Byte(2)
	for range 3 {
		w.Raw(w.Bytes())
	}
	if b := w.Bytes(); !bytes.Equal(b, bytes.Repeat([]byte{1, 2}, 8)) {
		t.Error(b)
	}
}

func TestP1_4ReaderKeepsNothing(t *testing.T) {
	b := []byte{1, 0, 'a', 7, 8, 9}
	r, q := octet.Of(b), octet.Of(b)
	b[2], b[3] = 'z', 70
	if s := r.Text(1); s != "a" {
		t.Error(s)
	}
	x := r.Raw(2)
	if !bytes.Equal(x, []byte{7, 8}) {
		t.Error(x)
	}
	x[0] = 71
	_ = append(x, 90)
	if y := r.Byte(); y != 9 {
		t.Error("an answer's spare room is the Reader's", y)
	}
	if !bytes.Equal(b, []byte{1, 0, 'z', 70, 8, 9}) {
		t.Error("what was handed in is changed", b)
	}
	if s := q.Text(1); s != "a" || q.Left() != 3 {
		t.Error("two Readers aren't apart", s, q.Left())
	}
}
