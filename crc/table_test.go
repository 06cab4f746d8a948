package crc_test

import (
	"bytes"
	"hash/crc32"
	"math"
	"sync"
	"testing"

	"interrex/api"
	"interrex/crc"
)

// plainSum is the sum as the document's words tell it, bit by bit.
func plainSum(b []byte) uint32 {
	register := uint32(math.MaxUint32)
	for _, c := range b {
		register ^= uint32(c)
		for range 8 {
			out := register%2 == 1
			register /= 2
			if out {
				register ^= 0xedb88320
			}
		}
	}
	return math.MaxUint32 - register
}

// dice is a row of numbers that look thrown, the same each time.
type dice uint64

func (d *dice) next(n int) int {
	*d = *d*6364136223846793005 + 1442695040888963407
	return int(uint64(*d) >> 33 % uint64(n))
}

func (d *dice) bytes(n int) []byte {
	b := make([]byte, n)
	for i := range b {
		b[i] = byte(d.next(256))
	}
	return b
}

// known are sums that others worked out.
var known = []struct {
	of  string
	sum uint32
}{
	{"", 0},
	{"123456789", 0xcbf43926},
	{"a", 0xe8b7be43},
	{"abc", 0x352441c2},
	{"\x00", 0xd202ef8d},
	{"\xff", 0xff000000},
	{"\x00\x00\x00\x00", 0x2144df1c},
	{"\xff\xff\xff\xff", 0xffffffff},
	{"The quick brown fox jumps over the lazy dog", 0x414fa339},
}

func TestP2_1SumOfKnownBytes(t *testing.T) {
	for _, k := range known {
		if s := crc.New().Sum([]byte(k.of)); s != k.sum {
			t.Errorf("%q: %08x, not %08x", k.of, s, k.sum)
		}
	}
	if s := crc.New().Sum(nil); s != 0 {
		t.Errorf("nil: %08x", s)
	}
}

func TestP2_1SumOfEachByte(t *testing.T) {
	x := crc.New()
	for i := range 256 {
		b := []byte{byte(i)}
		if s := x.Sum(b); s != plainSum(b) || s != crc32.ChecksumIEEE(b) {
			t.Errorf("%d: %08x, not %08x", i, s, plainSum(b))
		}
	}
}

func TestP2_1SumOfManyBytes(t *testing.T) {
	var d dice
	x := crc.New()
	for n := range 300 {
		b := d.bytes(n)
		if s := x.Sum(b); s != plainSum(b) || s != crc32.ChecksumIEEE(b) {
			t.Errorf("%v: %08x, not %08x", b, s, plainSum(b))
		}
	}
	long := d.bytes(1 << 20)
	if s := x.Sum(long); s != crc32.ChecksumIEEE(long) {
		t.Errorf("%08x", s)
	}
}

func TestP2_1MoreGoesOn(t *testing.T) {
	var d dice
	x := crc.New()
	b := d.bytes(64)
	whole := x.Sum(b)
	for i := range len(b) + 1 {
		if s := x.More(x.Sum(b[:i]), b[i:]); s != whole {
			t.Errorf("%d: %08x, not %08x", i, s, whole)
		}
	}
	var step uint32
	for i := range b {
		step = x.More(step, b[i:i+1])
	}
	if step != whole {
		t.Errorf("byte by byte: %08x, not %08x", step, whole)
	}
}

// Any number may be told as a sum.
func TestP2_1MoreOfAnySum(t *testing.T) {
	x := crc.New()
	for _, sum := range []uint32{0, 1, 0xcbf43926, 1 << 31, math.MaxUint32 - 1, math.MaxUint32} {
		if s := x.More(sum, nil); s != sum {
			t.Errorf("%08x and nothing: %08x", sum, s)
		}
		if s := x.More(sum, []byte{}); s != sum {
			t.Errorf("%08x and no bytes: %08x", sum, s)
		}
		b := []byte("some bytes")
		if s, want := x.More(sum, b), crc32.Update(sum, crc32.IEEETable, b); s != want {
			t.Errorf("%08x and some bytes: %08x, not %08x", sum, s, want)
		}
	}
}

func TestP2_1Seal(t *testing.T) {
	cases := []struct{ of, want []byte }{
		{nil, []byte{0, 0, 0, 0}},
		{[]byte{}, []byte{0, 0, 0, 0}},
		{[]byte("123456789"), []byte("123456789\x26\x39\xf4\xcb")},
		{[]byte{0}, []byte{0, 0x8d, 0xef, 0x02, 0xd2}},
		{[]byte{255}, []byte{255, 0, 0, 0, 0xff}},
	}
	for _, c := range cases {
		if s := crc.New().Seal(c.of); !bytes.Equal(s, c.want) {
			t.Errorf("%v: %v, not %v", c.of, s, c.want)
		}
	}
}

// deeds are all that make a table.
var deeds = []struct {
	name string
	deed func(x *crc.Table)
}{
	{"sum", func(x *crc.Table) { x.Sum([]byte("a")) }},
	{"sum of none", func(x *crc.Table) { x.Sum(nil) }},
	{"more", func(x *crc.Table) { x.More(7, []byte("a")) }},
	{"more of none", func(x *crc.Table) { x.More(0, nil) }},
	{"seal", func(x *crc.Table) { x.Seal([]byte("a")) }},
	{"seal of none", func(x *crc.Table) { x.Seal(nil) }},
	{"open", func(x *crc.Table) { x.Open([]byte{0, 0, 0, 0}) }},
	{"open of spoilt ones", func(x *crc.Table) { x.Open([]byte{0, 0, 0, 1}) }},
}

func TestP2_1Made(t *testing.T) {
	for _, c := range deeds {
		var zero crc.Table
		for _, x := range []*crc.Table{crc.New(), &zero} {
			if x.Made() || x.Made() {
				t.Errorf("%s: made too soon", c.name)
			}
			c.deed(x)
			if !x.Made() {
				t.Errorf("%s: not made", c.name)
			}
			for _, later := range deeds {
				later.deed(x)
			}
			x.Open(nil)
			if !x.Made() {
				t.Errorf("%s: doesn't stay made", c.name)
			}
		}
	}
}

func TestP2_1TablesAreMadeApart(t *testing.T) {
	a, b := crc.New(), crc.New()
	a.Sum(nil)
	if a == b || !a.Made() || b.Made() || crc.New().Made() {
		t.Error("one table is made by another one's deed")
	}
}

// Whoever comes first, all see a table that is whole.
func TestP2_1WhoeverAsksFirst(t *testing.T) {
	for range 100 {
		var x crc.Table
		var all sync.WaitGroup
		start := make(chan struct{})
		for range 8 {
			all.Go(func() {
				<-start
				if s := x.Sum([]byte("123456789")); s != 0xcbf43926 || !x.Made() {
					t.Errorf("%08x, made: %v", s, x.Made())
				}
			})
		}
		close(start)
		all.Wait()
	}
}

func TestP2_2Open(t *testing.T) {
	cases := []struct {
		of   string
		want string
		e    api.Errno
	}{
		{"", "", api.ErrShort},
		{"\x00", "", api.ErrShort},
		{"\x00\x00\x00", "", api.ErrShort},
		{"\xff\x00\x00", "", api.ErrShort},
		{"\x00\x00\x00\x00", "", api.OK},
		{"\x01\x00\x00\x00", "", api.ErrSum},
		{"\x00\x00\x00\x80", "", api.ErrSum},
		{"\xff\xff\xff\xff", "", api.ErrSum},
		{"\xff\x00\x00\x00\xff", "\xff", api.OK},
		{"123456789\x26\x39\xf4\xcb", "123456789", api.OK},
		{"123456789\xcb\xf4\x39\x26", "", api.ErrSum},
		{"\x26\x39\xf4\xcb123456789", "", api.ErrSum},
		{"12345678\x26\x39\xf4\xcb", "", api.ErrSum},
		{"123456789\x26\x39\xf4", "", api.ErrSum},
		{"213456789\x26\x39\xf4\xcb", "", api.ErrSum},
	}
	for _, c := range cases {
		b, e := crc.New().Open([]byte(c.of))
		if string(b) != c.want || e != c.e {
			t.Errorf("%q: %q, %d; not %q, %d", c.of, b, e, c.want, c.e)
		}
	}
}

func TestP2_2ShortMakesNothing(t *testing.T) {
	x := crc.New()
	for _, b := range [][]byte{nil, {}, {0}, {0, 0}, {0, 0, 0}} {
		if o, e := x.Open(b); e != api.ErrShort || len(o) != 0 || x.Made() {
			t.Errorf("%v: %v, %d, made: %v", b, o, e, x.Made())
		}
	}
}

func TestP2_2SealedIsOpened(t *testing.T) {
	var d dice
	x := crc.New()
	for n := range 300 {
		b := d.bytes(n)
		s := x.Seal(b)
		if o, e := x.Open(s); e != api.OK || !bytes.Equal(o, b) {
			t.Errorf("%v: %v, %d", b, o, e)
		}
		twice := x.Seal(s)
		if o, e := x.Open(twice); e != api.OK || !bytes.Equal(o, s) {
			t.Errorf("%v, sealed twice: %v, %d", b, o, e)
		}
	}
}

// Any bytes are opened just if their last four are the others' sum.
func TestP2_2AnyBytes(t *testing.T) {
	var d dice
	x := crc.New()
	for range 5000 {
		b := d.bytes(4 + d.next(8))
		if d.next(2) == 0 {
			b = x.Seal(b)
			b[d.next(len(b))] ^= byte(d.next(2))
		}
		body := b[:len(b)-4]
		want := bytes.Equal(x.Seal(body), b)
		o, e := x.Open(b)
		if want && (e != api.OK || !bytes.Equal(o, body)) || !want && (e != api.ErrSum || len(o) != 0) {
			t.Fatalf("%v: %v, %d", b, o, e)
		}
	}
}
